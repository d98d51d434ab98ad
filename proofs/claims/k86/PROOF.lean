import PyProof.Rows.All
import Wide.All
import OpenK.AllK
import Wide.FinOn
import HandS.ForExc
import HandS.ForMost
import HandS.IsInst
import HandS.Style
import HandS.Zip
import HandS.RevRange
import HandS.Lambda
import HandS.TryOnly
import HandS.TryMany
import HandS.ExcOwn
import HandS.ExcInit
import HandS.ExcField
import HandS.ExcIs
import HandS.EndTab
import HandS.CallLocal
import KE.KExcIs
import KE.KNestM
import KE.IntBitsLaws
import HandS.WideBits
import KE.GoesEnum
import KE.GoesMore
import HandS.Codes
import HandS.Conv
import HandS.IntHex
import PyProof.FString3
import PyProof.StrOps2
import KE.IntText
import HandS.StrMore
import HandS.FStr
import HandS.Flt
import HandS.Property
import HandS.List
import HandS.TupAny
import HandS.Wide
import HandS.SortInts
import HandS.Dict
import HandS.OwnEq
import HandS.Defaults
import HandS.MakeKwOnly
import PyProof.ReprRoads
import PyProof.ReprLen
import PyProof.Rows.RegStrFacts
import HandS.Nested
import HandS.DictComp
import HandS.Small
import HandS.RaiseMore
import PySem.Challenge.RW_framejoins_k86_lines_refused
set_option Elab.async false
set_option linter.all false
set_option maxRecDepth 100000
set_option maxHeartbeats 4000000
def PySem.W.Fast.tw16469715798952748674 : Unit := ()
def PySem.W.Fast.tw15856526764249179858 : Unit := ()
def PySem.W.Fast.tw9461956673689481705 : Unit := ()
def PySem.W.Fast.tw10055834404856578915 : Unit := ()
def PySem.W.Fast.tw2778432149336288405 : Unit := ()
def PySem.W.Fast.tw6911850973406227836 : Unit := ()
def PySem.W.Fast.tw12956919598601212247 : Unit := ()
def PySem.W.Fast.tw1060973208169044385 : Unit := ()
def PySem.W.Fast.tw17555633610147874415 : Unit := ()
def PySem.W.Fast.tw13663804840895208259 : Unit := ()
def PySem.W.Fast.tw6418084169061905782 : Unit := ()
def PySem.W.Fast.tw7750070217457923296 : Unit := ()
def PySem.W.Fast.tw4959929537070933110 : Unit := ()
def PySem.W.Fast.tw11352395735792510776 : Unit := ()
def PySem.W.Fast.tw18178385716147201273 : Unit := ()
def PySem.W.Fast.tw5160492784791578948 : Unit := ()
def PySem.W.Fast.tw13675676942226320276 : Unit := ()
section
open PySem PySem.W PyProof.Rows
set_option maxHeartbeats 0 in
open_top headTop for PySem.Challenge.rw_framejoins_k86_lines_refused
end
namespace Z
def Lt1 (P : Prop) : Prop := P
theorem lt_eq {P : Prop} (h : P) : Lt1 P = True := eq_true h
theorem lt_out {P : Prop} (h : Lt1 P) : P := h
open PySem PySem.Spec PyProof.Rows L2
def rLen (K : PySem.W.Frag) : List V → Hp → VK → Prop := fun xs H Q => ∃ x n, xs = [x] ∧ LenV K x H n ∧ Q (.int n) H
def rAbs : List V → Hp → VK → Prop := fun xs H Q => ∃ i, xs = [.int i] ∧ Q (.int (if i < 0 then -i else i)) H
def rMax2 : List V → Hp → VK → Prop := fun xs H Q => ∃ i j, xs = [.int i, .int j] ∧ Q (.int (if j > i then j else i)) H
def rMin2 : List V → Hp → VK → Prop := fun xs H Q => ∃ i j, xs = [.int i, .int j] ∧ Q (.int (if j < i then j else i)) H
def rToInt : List V → Hp → VK → Prop := fun xs H Q => (∃ i, xs = [.int i] ∧ Q (.int i) H) ∨ ∃ k, xs = [.bl k] ∧ Q (.int (if k then 1 else 0)) H
def rToList (K : PySem.W.Frag) : List V → Hp → VK → Prop := fun xs H Q => ∃ p ys, xs = [.ref p] ∧ (SqL K H p ys ∨ SqT K H p ys) ∧ ∀ l, H l = none → Q (.ref l) (upd H l (.lst ys))
section
variable {X : Cx}
theorem cLen : CallR X (.builtin "len") (rLen X.K) := call_len
theorem cAbs : CallR X (.builtin "abs") rAbs := call_abs
theorem cMax (hc : X.calm = true) : CallR X (.builtin "max") rMax2 := call_max2 hc
theorem cMin (hc : X.calm = true) : CallR X (.builtin "min") rMin2 := call_min2 hc
theorem cInt : CallR X (.type "int") rToInt := call_int1
theorem cList : CallR X (.type "list") (rToList X.K) := call_list_of
end
/-- the values by position and by keyword, put in the parameters' order -/
def kg {α : Type} (m n : Nat) (idx : List Nat) (us ws : List α) : List α := if us.length = m ∧ ws.length = n then idx.filterMap (fun i => (us ++ ws)[i]?) else []
theorem len2 {α : Type} : ∀ {l : List α}, l.length = 2 → ∃ a b, l = [a, b]
  | [a, b], _ => ⟨a, b, rfl⟩
section
variable {X : Cx} {K : PySem.W.Frag} {σ : L2.St} {H : Hp} {Q : VK} {n : L2.St → Hp → Prop} {r : VK} {b c : L2.St → Hp → Prop} {ta tb tc te : TE} {tA tB1 : TT} {t u : TS} {v : V}
theorem rd_seq (h : t ⟨u ⟨n, r, b, c⟩, r, b, c⟩ σ H) : tSeq t u ⟨n, r, b, c⟩ σ H := h
theorem rd_start {D : Ends} {σ σ' : L2.St} (e : σ' = σ) (h : t D σ H) : t D σ' H := e ▸ h
theorem rd_next (h : n σ H) : tNext ⟨n, r, b, c⟩ σ H := h
theorem rd_asg {g : TG} (h : te σ H fun x H1 => g x σ H1 n) : tAsg te g ⟨n, r, b, c⟩ σ H := h
theorem rd_gname {i : Nat} {Q : L2.St → Hp → Prop} (h : Q (σ.set i (some v)) H) : gName i v σ H Q := h
theorem rd_gsub {to ti : TE} {s : TSet} {Q : L2.St → Hp → Prop} (h : to σ H fun o H1 => ti σ H1 fun i H2 => s o i v H2 fun H3 => Q σ H3) : gSub to ti s v σ H Q := h
theorem rd_ret (h : te σ H r) : tRet te ⟨n, r, b, c⟩ σ H := h
theorem rd_retn (h : r .non H) : tRetN ⟨n, r, b, c⟩ σ H := h
theorem rd_ifs (h : tA σ H fun d H1 => if d = true then t ⟨n, r, b, c⟩ σ H1 else u ⟨n, r, b, c⟩ σ H1) : tIfS tA t u ⟨n, r, b, c⟩ σ H := h
theorem rd_drop (h : te σ H fun _ H1 => n σ H1) : tDrop te ⟨n, r, b, c⟩ σ H := h
theorem rd_par {i j : Nat} {ts : TA} (h : ts σ H fun vs H1 => ∃ v w, vs = [v, w] ∧ n ((σ.set i (some v)).set j (some w)) H1) : tPar i j ts ⟨n, r, b, c⟩ σ H := h
theorem rd_par3 {i j l : Nat} {ts : TA} (h : ts σ H fun vs H1 => ∃ u v w, vs = [u, v, w] ∧ n (((σ.set i (some u)).set j (some v)).set l (some w)) H1) : tPar3 i j l ts ⟨n, r, b, c⟩ σ H := h
theorem rd_two {v w : V} {P : V → V → Prop} (h : P v w) : ∃ a b, [v, w] = [a, b] ∧ P a b := ⟨v, w, rfl, h⟩
theorem rd_three {u v w : V} {P : V → V → V → Prop} (h : P u v w) : ∃ a b c, [u, v, w] = [a, b, c] ∧ P a b c := ⟨u, v, w, rfl, h⟩
theorem rd_var {i : Nat} (e : σ[i]? = some (some v)) (h : Q v H) : tVar i σ H Q := ⟨v, e, h⟩
theorem rd_c (h : Q v H) : tC v σ H Q := h
theorem rd_op {o : R2} (h : ta σ H fun x H1 => tb σ H1 fun y H2 => o x y H2 Q) : tOp o ta tb σ H Q := h
theorem rd_un {o : V → Hp → VK → Prop} (h : ta σ H fun x H1 => o x H1 Q) : tUn o ta σ H Q := h
theorem rd_i0 {g : Int → Int → V} {i j : Int} (h : Q (g i j) H) : rI0 g (.int i) (.int j) H Q := ⟨i, j, rfl, rfl, h⟩
theorem rd_i {C : Int → Int → Prop} {g : Int → Int → V} {i j : Int} (hC : C i j) (h : Q (g i j) H) : rI C g (.int i) (.int j) H Q := ⟨i, j, rfl, rfl, hC, h⟩
theorem rd_u {g : Int → V} {i : Int} (h : Q (g i) H) : rU g (.int i) H Q := ⟨i, rfl, h⟩
theorem rd_eq {x y : V} (e : scal x y = true) (h : Q (.bl (decide (x = y))) H) : rEq x y H Q := ⟨e, h⟩
theorem rd_ne {x y : V} (e : scal x y = true) (h : Q (.bl (!decide (x = y))) H) : rNe x y H Q := ⟨e, h⟩
theorem rd_test {q : Bool → Hp → Prop} (h : te σ H fun x H' => ∃ k, x = .bl k ∧ q k H') : tTest te σ H q := h
theorem rd_b {q : Bool → Hp → Prop} (h : te σ H fun x H' => ∃ k, x = .bl k ∧ q k H') : tB te σ H q := h
theorem rd_bl {k : Bool} {P : Bool → Prop} (h : P k) : ∃ d, V.bl k = .bl d ∧ P d := ⟨k, rfl, h⟩
theorem rd_not {q : Bool → Hp → Prop} (h : tA σ H fun d H1 => q (!d) H1) : tNot tA σ H q := h
theorem rd_and {q : Bool → Hp → Prop} (h : tA σ H fun d H1 => if d = true then tB1 σ H1 q else q false H1) : tAnd tA tB1 σ H q := h
theorem rd_or {q : Bool → Hp → Prop} (h : tA σ H fun d H1 => if d = true then q true H1 else tB1 σ H1 q) : tOr tA tB1 σ H q := h
theorem rd_andV (h : ta σ H fun x H1 => ∃ c, x = .bl c ∧ if c = true then tb σ H1 Q else Q (.bl false) H1) : tAndV ta tb σ H Q := h
theorem rd_orV (h : ta σ H fun x H1 => ∃ c, x = .bl c ∧ if c = true then Q (.bl true) H1 else tb σ H1 Q) : tOrV ta tb σ H Q := h
theorem rd_notV (h : ta σ H fun x H1 => ∃ c, x = .bl c ∧ Q (.bl (!c)) H1) : tNotV ta σ H Q := h
theorem rd_if (h : tA σ H fun d H1 => if d = true then ta σ H1 Q else tb σ H1 Q) : tIf tA ta tb σ H Q := h
theorem rd_chain {o o' : R2} (h : ta σ H fun x H1 => tb σ H1 fun y H2 => o x y H2 fun z H3 => ∃ k, z = .bl k ∧ if k = true then tc σ H3 fun w' H4 => o' y w' H4 Q else Q (.bl false) H3) : tChain o o' ta tb tc σ H Q := h
theorem rd_call {sp : Sp} {dvs : List V} {E : XK} {ts : TA} (h : ts σ H fun vs H1 => sp (vs ++ dvs) H1 Q E) : tCall sp dvs E ts σ H Q := h
theorem rd_callK {sp : Sp} {gV : List V → List V → List V} {E : XK} {ts tk : TA} (h : ts σ H fun vs H1 => tk σ H1 fun zs H2 => sp (gV vs zs) H2 Q E) : tCallK sp gV E ts tk σ H Q := h
theorem rd_cb {rr : List V → Hp → VK → Prop} {ts : TA} (h : ts σ H fun vs H1 => rr vs H1 Q) : tCB rr ts σ H Q := h
theorem rd_cons {tr : TA} {q : List V → Hp → Prop} (h : te σ H fun x H1 => tr σ H1 fun xs H2 => q (x :: xs) H2) : tCons te tr σ H q := h
theorem rd_nil {q : List V → Hp → Prop} (h : q [] H) : tNil σ H q := h
theorem rd_tup {ts : TA} (h : ts σ H fun xs H1 => xs.length ≤ sizeLine ∧ ∀ p, H1 p = none → Q (.ref p) (upd H1 p (.tup xs))) : tTup ts σ H Q := h
theorem rd_lst {ts : TA} (h : ts σ H fun xs H1 => xs.length ≤ sizeLine ∧ ∀ p, H1 p = none → Q (.ref p) (upd H1 p (.lst xs))) : tLst ts σ H Q := h
theorem rd_int {i : Int} (h : Q (.int i) H) : rToInt [.int i] H Q := .inl ⟨i, rfl, h⟩
theorem rd_intb {k : Bool} (h : Q (.int (if k then 1 else 0)) H) : rToInt [.bl k] H Q := .inr ⟨k, rfl, h⟩
theorem rd_abs {i : Int} (h : Q (.int (if i < 0 then -i else i)) H) : rAbs [.int i] H Q := ⟨i, rfl, h⟩
theorem rd_max {i j : Int} (h : Q (.int (if j > i then j else i)) H) : rMax2 [.int i, .int j] H Q := ⟨i, j, rfl, h⟩
theorem rd_min {i j : Int} (h : Q (.int (if j < i then j else i)) H) : rMin2 [.int i, .int j] H Q := ⟨i, j, rfl, h⟩
theorem rd_lenL {p : Addr} {xs : List V} (e : SqL K H p xs) (h : Q (.int xs.length) H) : rLen K [.ref p] H Q := ⟨.ref p, xs.length, rfl, .inl ⟨xs, e, rfl⟩, h⟩
theorem rd_lenT {p : Addr} {xs : List V} (e : SqT K H p xs) (h : Q (.int xs.length) H) : rLen K [.ref p] H Q := ⟨.ref p, xs.length, rfl, .inr ⟨xs, e, rfl⟩, h⟩
theorem rd_ixL {p : Addr} {xs : List V} {i : Int} {v : V} (e : SqL K H p xs) (a : atI xs i = some v) (h : Q v H) : rIxL K (.ref p) (.int i) H Q := ⟨p, xs, i, v, rfl, rfl, e, a, h⟩
theorem rd_ixT {p : Addr} {xs : List V} {i : Int} {v : V} (e : SqT K H p xs) (a : atI xs i = some v) (h : Q v H) : rIxT K (.ref p) (.int i) H Q := ⟨p, xs, i, v, rfl, rfl, e, a, h⟩
theorem rd_setL {p : Addr} {xs : List V} {i : Int} {j : Nat} {v : V} {q : Hp → Prop} (e : H p = some (.lst xs)) (a : ixN xs.length i = some j) (h : q (upd H p (.lst (xs.set j v)))) : rSetL (.ref p) (.int i) v H q := ⟨p, xs, i, j, rfl, rfl, e, a, h⟩
theorem rd_listL {p : Addr} {xs : List V} (e : SqL K H p xs) (h : ∀ l, H l = none → Q (.ref l) (upd H l (.lst xs))) : rToList K [.ref p] H Q := ⟨p, xs, rfl, .inl e, h⟩
theorem rd_iteD {p : Prop} [Decidable p] {A B : Prop} (h1 : p → A) (h2 : ¬ p → B) : if decide p = true then A else B := by
  by_cases h : p
  · rw [if_pos (decide_eq_true h)]; exact h1 h
  · rw [decide_eq_false h, if_neg Bool.false_ne_true]; exact h2 h
theorem rd_iteN {p : Prop} [Decidable p] {A B : Prop} (h1 : ¬ p → A) (h2 : p → B) : if (!decide p) = true then A else B := by
  by_cases h : p
  · rw [decide_eq_true h]; exact iteF (h2 h)
  · rw [decide_eq_false h]; exact iteT (h1 h)
theorem iteNT {A B : Prop} (h : B) : if (!true) = true then A else B := iteF h
theorem iteNF {A B : Prop} (h : A) : if (!false) = true then A else B := iteT h
theorem rd_isi {x c : V} {t' u' : Value} {d : Bool} (k : ClsV c u') (ty : TyX K H x t') (e : PySem.W.kitOne K t' u' = some d) (h : Q (.bl d) H) : rIsi K [x, c] H Q := ⟨x, c, t', u', d, rfl, k, ty, e, h⟩
theorem isi_int_int {i : Int} (h : Q (.bl true) H) : rIsi K [.int i, .ty "int"] H Q := rd_isi (.ty "int") (.base (.int i)) (kit_ty (by decide +kernel)) h
theorem isi_int_bool {i : Int} (h : Q (.bl false) H) : rIsi K [.int i, .ty "bool"] H Q := rd_isi (.ty "bool") (.base (.int i)) (kit_ty (by decide +kernel)) h
theorem isi_int_str {i : Int} (h : Q (.bl false) H) : rIsi K [.int i, .ty "str"] H Q := rd_isi (.ty "str") (.base (.int i)) (kit_ty (by decide +kernel)) h
theorem isi_int_list {i : Int} (h : Q (.bl false) H) : rIsi K [.int i, .ty "list"] H Q := rd_isi (.ty "list") (.base (.int i)) (kit_ty (by decide +kernel)) h
theorem isi_int_tuple {i : Int} (h : Q (.bl false) H) : rIsi K [.int i, .ty "tuple"] H Q := rd_isi (.ty "tuple") (.base (.int i)) (kit_ty (by decide +kernel)) h
theorem isi_bl_int {i : Bool} (h : Q (.bl true) H) : rIsi K [.bl i, .ty "int"] H Q := rd_isi (.ty "int") (.base (.bl i)) (kit_ty (by decide +kernel)) h
theorem isi_bl_bool {i : Bool} (h : Q (.bl true) H) : rIsi K [.bl i, .ty "bool"] H Q := rd_isi (.ty "bool") (.base (.bl i)) (kit_ty (by decide +kernel)) h
theorem isi_bl_str {i : Bool} (h : Q (.bl false) H) : rIsi K [.bl i, .ty "str"] H Q := rd_isi (.ty "str") (.base (.bl i)) (kit_ty (by decide +kernel)) h
theorem isi_bl_list {i : Bool} (h : Q (.bl false) H) : rIsi K [.bl i, .ty "list"] H Q := rd_isi (.ty "list") (.base (.bl i)) (kit_ty (by decide +kernel)) h
theorem isi_bl_tuple {i : Bool} (h : Q (.bl false) H) : rIsi K [.bl i, .ty "tuple"] H Q := rd_isi (.ty "tuple") (.base (.bl i)) (kit_ty (by decide +kernel)) h
theorem isi_non_int  (h : Q (.bl false) H) : rIsi K [.non, .ty "int"] H Q := rd_isi (.ty "int") (.base .non) (kit_ty (by decide +kernel)) h
theorem isi_non_bool  (h : Q (.bl false) H) : rIsi K [.non, .ty "bool"] H Q := rd_isi (.ty "bool") (.base .non) (kit_ty (by decide +kernel)) h
theorem isi_non_str  (h : Q (.bl false) H) : rIsi K [.non, .ty "str"] H Q := rd_isi (.ty "str") (.base .non) (kit_ty (by decide +kernel)) h
theorem isi_non_list  (h : Q (.bl false) H) : rIsi K [.non, .ty "list"] H Q := rd_isi (.ty "list") (.base .non) (kit_ty (by decide +kernel)) h
theorem isi_non_tuple  (h : Q (.bl false) H) : rIsi K [.non, .ty "tuple"] H Q := rd_isi (.ty "tuple") (.base .non) (kit_ty (by decide +kernel)) h
theorem isi_str_int {z : Str} (h : Q (.bl false) H) : rIsi K [.str z, .ty "int"] H Q := rd_isi (.ty "int") (.base (.str z)) (kit_ty (by decide +kernel)) h
theorem isi_str_bool {z : Str} (h : Q (.bl false) H) : rIsi K [.str z, .ty "bool"] H Q := rd_isi (.ty "bool") (.base (.str z)) (kit_ty (by decide +kernel)) h
theorem isi_str_str {z : Str} (h : Q (.bl true) H) : rIsi K [.str z, .ty "str"] H Q := rd_isi (.ty "str") (.base (.str z)) (kit_ty (by decide +kernel)) h
theorem isi_str_list {z : Str} (h : Q (.bl false) H) : rIsi K [.str z, .ty "list"] H Q := rd_isi (.ty "list") (.base (.str z)) (kit_ty (by decide +kernel)) h
theorem isi_str_tuple {z : Str} (h : Q (.bl false) H) : rIsi K [.str z, .ty "tuple"] H Q := rd_isi (.ty "tuple") (.base (.str z)) (kit_ty (by decide +kernel)) h
theorem isi_lst_int {p : Addr} {xs : List V} (hp : H p = some (.lst xs)) (h : Q (.bl false) H) : rIsi K [.ref p, .ty "int"] H Q := rd_isi (.ty "int") (.base (.lst hp)) (kit_ty (by decide +kernel)) h
theorem isi_lst_bool {p : Addr} {xs : List V} (hp : H p = some (.lst xs)) (h : Q (.bl false) H) : rIsi K [.ref p, .ty "bool"] H Q := rd_isi (.ty "bool") (.base (.lst hp)) (kit_ty (by decide +kernel)) h
theorem isi_lst_str {p : Addr} {xs : List V} (hp : H p = some (.lst xs)) (h : Q (.bl false) H) : rIsi K [.ref p, .ty "str"] H Q := rd_isi (.ty "str") (.base (.lst hp)) (kit_ty (by decide +kernel)) h
theorem isi_lst_list {p : Addr} {xs : List V} (hp : H p = some (.lst xs)) (h : Q (.bl true) H) : rIsi K [.ref p, .ty "list"] H Q := rd_isi (.ty "list") (.base (.lst hp)) (kit_ty (by decide +kernel)) h
theorem isi_lst_tuple {p : Addr} {xs : List V} (hp : H p = some (.lst xs)) (h : Q (.bl false) H) : rIsi K [.ref p, .ty "tuple"] H Q := rd_isi (.ty "tuple") (.base (.lst hp)) (kit_ty (by decide +kernel)) h
theorem isi_tup_int {p : Addr} {xs : List V} (hp : H p = some (.tup xs)) (h : Q (.bl false) H) : rIsi K [.ref p, .ty "int"] H Q := rd_isi (.ty "int") (.base (.tup hp)) (kit_ty (by decide +kernel)) h
theorem isi_tup_bool {p : Addr} {xs : List V} (hp : H p = some (.tup xs)) (h : Q (.bl false) H) : rIsi K [.ref p, .ty "bool"] H Q := rd_isi (.ty "bool") (.base (.tup hp)) (kit_ty (by decide +kernel)) h
theorem isi_tup_str {p : Addr} {xs : List V} (hp : H p = some (.tup xs)) (h : Q (.bl false) H) : rIsi K [.ref p, .ty "str"] H Q := rd_isi (.ty "str") (.base (.tup hp)) (kit_ty (by decide +kernel)) h
theorem isi_tup_list {p : Addr} {xs : List V} (hp : H p = some (.tup xs)) (h : Q (.bl false) H) : rIsi K [.ref p, .ty "list"] H Q := rd_isi (.ty "list") (.base (.tup hp)) (kit_ty (by decide +kernel)) h
theorem isi_tup_tuple {p : Addr} {xs : List V} (hp : H p = some (.tup xs)) (h : Q (.bl true) H) : rIsi K [.ref p, .ty "tuple"] H Q := rd_isi (.ty "tuple") (.base (.tup hp)) (kit_ty (by decide +kernel)) h
theorem rd_for1 {ts : TA} {g : TG} {tb' : TS} {D : Ends} (h : ts σ H fun vs H1 => ∃ j : Int, vs = [.int j] ∧ -(2 ^ 62) ≤ j ∧ j < 2 ^ 62 ∧ (∃ W : Nat → Nat → L2.St → Hp → Prop, (∃ m, W 0 m σ H1) ∧ ∀ i m σ H, W i m σ H →
      ((Itr 0 j.toNat).stop i H ∧ D.nx σ H) ∨ ((Itr 0 j.toNat).go i H ∧ ∃ N : L2.St → Hp → Prop, (∀ σ' H', N σ' H' → ∃ m', m' < m ∧ W (i + 1) m' σ' H') ∧ ∀ x H', (Itr 0 j.toNat).yld i H x H' → g x σ H' fun σ2 H2 => tb' { D with nx := N, ct := N, bk := D.nx } σ2 H2))) : tFor (iRng1 ts) g tb' D σ H := h
theorem rd_all {n m : Nat} {P : Addr → Prop} (h1 : n ≤ m) (h : ∀ p, H p = none → P p) : n ≤ m ∧ ∀ p, H p = none → P p := ⟨h1, h⟩
theorem rd_ixP {p : Addr} {xs : List V} {i : Int} (Pm : V → Prop) (e : SqL K H p xs) (h0 : 0 ≤ i) (h1 : i < xs.length) (hP : ∀ v ∈ xs, Pm v) (h : ∀ v, Pm v → Q v H) : rIxL K (.ref p) (.int i) H Q := by
  obtain ⟨j, rfl⟩ : ∃ j : Nat, i = (j : Int) := ⟨i.toNat, by omega⟩
  have hj : j < xs.length := by omega
  have g : xs[j]? = some xs[j] := List.getElem?_eq_getElem hj
  exact ⟨p, xs, (j : Int), xs[j], rfl, rfl, e, atI_nat g, h _ (hP _ (List.getElem_mem hj))⟩
theorem rd_gtup {a : Addr} {xs : List V} {k : Nat} {ts : TGs} {q : L2.St → Hp → Prop} (e : SqT K H a xs) (l : xs.length = k) (h : ts xs σ H q) : gTup K k ts (.ref a) σ H q := ⟨a, xs, rfl, e, l, h⟩
theorem rd_gcons {g : TG} {ts : TGs} {v : V} {vs : List V} {q : L2.St → Hp → Prop} (h : g v σ H fun σ' H' => ts vs σ' H' q) : gCons g ts (v :: vs) σ H q := ⟨v, vs, rfl, h⟩
theorem rd_gnil {q : L2.St → Hp → Prop} (h : q σ H) : gNil [] σ H q := ⟨rfl, h⟩
def LpW (J : It) (g : TG) (tb : TS) (D : Ends) (σ : L2.St) (H1 : Hp) : Prop := ∃ W : Nat → Nat → L2.St → Hp → Prop, (∃ m, W 0 m σ H1) ∧ ∀ i m σ H, W i m σ H →
      (J.stop i H ∧ D.nx σ H) ∨ (J.go i H ∧ ∃ N : L2.St → Hp → Prop, (∀ σ' H', N σ' H' → ∃ m', m' < m ∧ W (i + 1) m' σ' H') ∧ ∀ x H', J.yld i H x H' → g x σ H' fun σ2 H2 => tb { D with nx := N, ct := N, bk := D.nx } σ2 H2)
theorem rd_forT {g : TG} {tb' : TS} {D : Ends} (h : te σ H fun x H1 => ∃ a, x = .ref a ∧ (∃ xs, SqT K H1 a xs) ∧ LpW (Itt K a) g tb' D σ H1) : tFor (iTup K te) g tb' D σ H := h
theorem rd_forL {g : TG} {tb' : TS} {D : Ends} (h : te σ H fun x H1 => ∃ a, x = .ref a ∧ (∃ xs, SqL K H1 a xs) ∧ LpW (Itl K a) g tb' D σ H1) : tFor (iList K te) g tb' D σ H := h
theorem rd_lpL {a : Addr} {xs : List V} {g : TG} {tb' : TS} {D : Ends} (e : SqL K H a xs) (h : LpW (Itl K a) g tb' D σ H) : ∃ b, V.ref a = .ref b ∧ (∃ xs, SqL K H b xs) ∧ LpW (Itl K b) g tb' D σ H := ⟨a, rfl, ⟨xs, e⟩, h⟩
theorem rd_for2 {ts : TA} {g : TG} {tb' : TS} {D : Ends} (h : ts σ H fun vs H1 => ∃ i j : Int, vs = [.int i, .int j] ∧ (-(2 ^ 62) ≤ i ∧ i < 2 ^ 62 ∧ -(2 ^ 62) ≤ j ∧ j < 2 ^ 62) ∧ LpW (Itr i (j - i).toNat) g tb' D σ H1) : tFor (iRng2 ts) g tb' D σ H := h
theorem rd_n2 {i j : Int} {A : Int → Int → Prop} (h1 : -(2 ^ 62) ≤ i ∧ i < 2 ^ 62 ∧ -(2 ^ 62) ≤ j ∧ j < 2 ^ 62) (h : A i j) : ∃ k l : Int, [V.int i, V.int j] = [V.int k, V.int l] ∧ (-(2 ^ 62) ≤ k ∧ k < 2 ^ 62 ∧ -(2 ^ 62) ≤ l ∧ l < 2 ^ 62) ∧ A k l := ⟨i, j, rfl, h1, h⟩
theorem dp_ints : ∀ ns : List Int, DpAll K H (ns.map V.int) (ns.map PyData.int)
  | [] => .nil
  | n :: r => .cons (.int n) (dp_ints r)
theorem rd_neT2 {p q : Addr} {a b c d : Int} (hp : SqT K H p [.int a, .int b]) (hq : SqT K H q [.int c, .int d]) (e1 : a = c) (e2 : b = d) (h : Q (.bl false) H) : rNeD K (.ref p) (.ref q) H Q := by
  subst e1 e2
  exact ⟨_, _, .tup hp (dp_ints [a, b]), .tup hq (dp_ints [a, b]), rfl, rfl, by
    have e : PyData.eqv (.tuple ([a, b].map PyData.int)) (.tuple ([a, b].map PyData.int)) = true := by simp [PyData.eqv, PyData.eqvAll]
    rw [e]
    exact h⟩
def rIsN : R2 := fun x y H Q => y = .non ∧ Q (.bl (decide (x = .non))) H
theorem cIsN {X : Cx} : OpR X (compareOp .Is) rIsN := op_isN
theorem rd_isN {x : V} (h : Q (.bl (decide (x = .non))) H) : rIsN x .non H Q := ⟨rfl, h⟩
theorem rd_one {v : V} {P : V → Prop} (h : P v) : ∃ a, [v] = [a] ∧ P a := ⟨v, rfl, h⟩
theorem rd_n1 {j : Int} {A : Int → Prop} (h1 : -(2 ^ 62) ≤ j) (h2 : j < 2 ^ 62) (h : A j) : ∃ k : Int, [V.int j] = [V.int k] ∧ -(2 ^ 62) ≤ k ∧ k < 2 ^ 62 ∧ A k := ⟨j, rfl, h1, h2, h⟩
end
theorem look_same {H H' : Hp} {a : Addr} {u : HO} (s : Same H H') (h : H a = some u) : H' a = some u := s a u h
theorem look_new {H : Hp} {p a : Addr} {o u : HO} (hp : H p = none) (h : H a = some u) : upd H p o a = some u := by rw [upd_ne (ne_of_none h hp)]; exact h
/-- all but the object at p stay -/
def Kp (p : Addr) (H H' : Hp) : Prop := ∀ a o, a ≠ p → H a = some o → H' a = some o
theorem Kp.refl {p : Addr} {H : Hp} : Kp p H H := fun _ _ _ h => h
theorem Kp.trans {p : Addr} {H H1 H2 : Hp} (a : Kp p H H1) (b : Kp p H1 H2) : Kp p H H2 := fun c o n h => b c o n (a c o n h)
theorem Kp.of {p : Addr} {H H' : Hp} (s : Same H H') : Kp p H H' := fun a o _ h => s a o h
theorem same_new {H : Hp} {p : Addr} {o : HO} (h : H p = none) : Same H (upd H p o) := fun b x e => look_new h e
theorem Kp.new {p q : Addr} {H : Hp} {o : HO} (h : H q = none) : Kp p H (upd H q o) := .of (same_new h)
theorem Kp.at {p : Addr} {H : Hp} {o : HO} : Kp p H (upd H p o) := fun a x n h => by rw [upd_ne n]; exact h
theorem same_kp {p : Addr} {H0 H H' : Hp} (s : Same H0 H) (n : H0 p = none) (k : Kp p H H') : Same H0 H' := fun a o h => k a o (ne_of_none h n) (s a o h)
theorem sqL_new {K : PySem.W.Frag} {p a : Addr} {H : Hp} {o : HO} {xs : List V} (n : H p = none) (h : SqL K H a xs) : SqL K (upd H p o) a xs := (same_new n).seq h
theorem sqL_same {K : PySem.W.Frag} {a : Addr} {H H' : Hp} {xs : List V} (s : Same H H') (h : SqL K H a xs) : SqL K H' a xs := s.seq h
theorem seqT_K {K : PySem.W.Frag} {a : Addr} {od : Option Addr} {its : Array Value} {n : Nat} {sl : Array (Option Value)} {xs : List V} (l : K.lookup a = some ⟨.type "tuple", od, .seq its n, sl⟩) (hs : its.size ≤ sizeLine) (hv : Vals xs its.toList) : ∀ H, SqT K H a xs := fun _ => .inr ⟨_, its, n, l, rfl, rfl, hs, hv⟩
theorem by_all {K : PySem.W.Frag} {a : Addr} {xs : List V} {H : Hp} (h : ∀ H, SqT K H a xs) : SqT K H a xs := h H
def Pool (H : Hp) (p : Addr) : Prop := ∃ x y : Int, H p = some (.lst [.int x, .int y]) ∧ 0 ≤ x ∧ 0 ≤ y ∧ y < 2147483647
theorem look_kp {p a : Addr} {H H' : Hp} {u : HO} (k : Kp p H H') (n : a ≠ p) (h : H a = some u) : H' a = some u := k a u n h
theorem Pool.ne {H : Hp} {p a : Addr} (h : Pool H p) (n : H a = none) : a ≠ p := by
  obtain ⟨x, y, e, _⟩ := h
  exact (ne_of_none e n).symm
theorem Pool.ne' {H : Hp} {p a : Addr} (n : H a = none) (h : Pool H p) : a ≠ p := h.ne n
theorem Pool.new {H : Hp} {p q : Addr} {o : HO} (h : Pool H p) (n : H q = none) : Pool (upd H q o) p := by
  obtain ⟨x, y, e, r⟩ := h
  exact ⟨x, y, look_new n e, r⟩
theorem Pool.same {H H' : Hp} {p : Addr} (h : Pool H p) (s : Same H H') : Pool H' p := by
  obtain ⟨x, y, e, r⟩ := h
  exact ⟨x, y, s _ _ e, r⟩
theorem Pool.same' {H H' : Hp} {p : Addr} (s : Same H H') (h : Pool H p) : Pool H' p := h.same s
theorem Pool.new' {H : Hp} {p q : Addr} {o : HO} (n : H q = none) (h : Pool H p) : Pool (upd H q o) p := h.new n
def spTake : Sp := fun vs H Q _ => ∃ (p : Addr) (m : Int), vs = [.ref p, .int m] ∧ Pool H p ∧ 0 < m ∧ m < 1073741824 ∧ ∀ r H', 0 ≤ r → r < m → Pool H' p → Kp p H H' → Q (.int r) H'
theorem use_take {p : Addr} {m : Int} {H : Hp} {Q : VK} {E : XK} (h1 : Pool H p) (h2 : 0 < m) (h3 : m < 1073741824) (q : ∀ r H', 0 ≤ r → r < m → Pool H' p → Kp p H H' → Q (.int r) H') : spTake ([.ref p, .int m] ++ []) H Q E := ⟨p, m, rfl, h1, h2, h3, q⟩
def spPool (K : PySem.W.Frag) : Sp := fun vs H Q _ => ∃ (a : Addr) (ns : List Int) (k : Int), vs = [.ref a, .int k] ∧ SqL K H a (ns.map V.int) ∧ ns.length ≤ 63 ∧ 0 ≤ k ∧ k < 64 ∧ ∀ p H', H p = none → Same H H' → Pool H' p → Q (.ref p) H'
theorem use_pool {K : PySem.W.Frag} {a : Addr} {ns : List Int} {k : Int} {H : Hp} {Q : VK} {E : XK} (h1 : SqL K H a (ns.map V.int)) (h2 : ns.length ≤ 63) (h3 : 0 ≤ k) (h4 : k < 64) (q : ∀ p H', H p = none → Same H H' → Pool H' p → Q (.ref p) H') : spPool K ([.ref a, .int k] ++ []) H Q E := ⟨a, ns, k, rfl, h1, h2, h3, h4, q⟩
def spNumber : Sp := fun vs H Q _ => ∃ (p : Addr), vs = [.ref p] ∧ Pool H p ∧ ∀ r H', r.natAbs < 10 ^ 55 → Pool H' p → Kp p H H' → Q (.int r) H'
theorem great_nn (z : Int) (b : Bool) : 0 ≤ (if z < 0 then -z else z) * (if b = true then (1 : Int) else 0) := Int.mul_nonneg (by split <;> omega) (by split <;> decide)
theorem use_number {p : Addr} {H : Hp} {Q : VK} {E : XK} (h1 : Pool H p) (q : ∀ r H', r.natAbs < 10 ^ 55 → Pool H' p → Kp p H H' → Q (.int r) H') : spNumber ([.ref p] ++ []) H Q E := ⟨p, rfl, h1, q⟩
def isI : V → Bool
  | .int _ => true
  | _ => false
def TyV (H : Hp) : V → Prop
  | .non => True
  | .bl _ => True
  | .int _ => True
  | .str _ => True
  | .ref a => (∃ xs, H a = some (.lst xs)) ∨ ∃ xs, H a = some (.tup xs)
  | _ => False
def spIsI : Sp := fun vs H Q _ => ∃ x, vs = [x] ∧ TyV H x ∧ Q (.bl (isI x)) H
theorem use_isi {x : V} {H : Hp} {Q : VK} {E : XK} (t : TyV H x) (q : Q (.bl (isI x)) H) : spIsI ([x] ++ []) H Q E := ⟨x, rfl, t, q⟩
theorem use_isi_int {i : Int} {H : Hp} {Q : VK} {E : XK} (q : Q (.bl true) H) : spIsI ([.int i] ++ []) H Q E := ⟨_, rfl, trivial, q⟩
def inI (x : V) (lo hi : Int) : Bool := match x with
  | .int i => decide (lo ≤ i ∧ i ≤ hi)
  | _ => false
def spWithin : Sp := fun vs H Q _ => ∃ x lo hi, vs = [x, .int lo, .int hi] ∧ TyV H x ∧ Q (.bl (inI x lo hi)) H
theorem use_within {x : V} {lo hi : Int} {H : Hp} {Q : VK} {E : XK} (t : TyV H x) (q : Q (.bl (inI x lo hi)) H) : spWithin ([x, .int lo, .int hi] ++ []) H Q E := ⟨x, lo, hi, rfl, t, q⟩
theorem use_within_int {i lo hi : Int} {H : Hp} {Q : VK} {E : XK} (q : Q (.bl (decide (lo ≤ i ∧ i ≤ hi))) H) : spWithin ([.int i, .int lo, .int hi] ++ []) H Q E := ⟨_, lo, hi, rfl, trivial, q⟩
def spCkI : Sp := fun vs H Q _ => ∃ i, vs = [.int i] ∧ Q .non H
theorem use_cki {i : Int} {H : Hp} {Q : VK} {E : XK} (q : Q .non H) : spCkI ([.int i] ++ []) H Q E := ⟨_, rfl, q⟩
def spCkW : Sp := fun vs H Q _ => ∃ i lo hi, vs = [.int i, .int lo, .int hi] ∧ lo ≤ i ∧ i ≤ hi ∧ Q .non H
theorem use_ckw {i lo hi : Int} {H : Hp} {Q : VK} {E : XK} (h1 : lo ≤ i) (h2 : i ≤ hi) (q : Q .non H) : spCkW ([.int i, .int lo, .int hi] ++ []) H Q E := ⟨_, _, _, rfl, h1, h2, q⟩
def spQuant : Sp := fun vs H Q _ => ∃ v s, vs = [.int v, .int s] ∧ 1 ≤ s ∧ s ≤ 64 ∧ Q (.int ((2 * v + s) / (2 * s))) H
theorem use_quant {v s : Int} {H : Hp} {Q : VK} {E : XK} (h1 : 1 ≤ s) (h2 : s ≤ 64) (q : Q (.int ((2 * v + s) / (2 * s))) H) : spQuant ([.int v, .int s] ++ []) H Q E := ⟨v, s, rfl, h1, h2, q⟩
theorem use_quantK {v s : Int} {H : Hp} {Q : VK} {E : XK} (h1 : 1 ≤ s) (h2 : s ≤ 64) (q : Q (.int ((2 * v + s) / (2 * s))) H) : spQuant (kg 0 2 [1, 0] [] [.int s, .int v]) H Q E := ⟨v, s, rfl, h1, h2, q⟩
def cC (s : Int) : Int := if s = 0 then -1 else if s = 1 then -2 else if s = 2 then 1 else 2
def cD (s : Int) : Int := if s = 0 then 2 else if s = 1 then 3 else if s = 2 then -2 else -3
def foldP (s a b : Int) : Int × Int :=
  (a + (cC s * b + 2) / 4 + (cC s * (b + (cD s * (a + (cC s * b + 2) / 4) + 2) / 4) + 2) / 4, b + (cD s * (a + (cC s * b + 2) / 4) + 2) / 4)
def unfoldP (s a b : Int) : Int × Int :=
  (a - (cC s * b + 2) / 4 - (cC s * (b - (cD s * (a - (cC s * b + 2) / 4) + 2) / 4) + 2) / 4, b - (cD s * (a - (cC s * b + 2) / 4) + 2) / 4)
theorem unfold_fold (s a b : Int) : unfoldP s (foldP s a b).1 (foldP s a b).2 = (a, b) := by
  unfold unfoldP foldP
  dsimp only
  rw [Int.add_sub_cancel, Int.add_sub_cancel, Int.add_sub_cancel]
theorem fold_unfold (s a b : Int) : foldP s (unfoldP s a b).1 (unfoldP s a b).2 = (a, b) := by
  unfold unfoldP foldP
  dsimp only
  rw [Int.sub_add_cancel, Int.sub_add_cancel, Int.sub_add_cancel]
def spPair (f : Int → Int → Int → Int × Int) : Sp := fun vs H Q _ => ∃ s a b, vs = [.int s, .int a, .int b] ∧ 0 ≤ s ∧ s < 4 ∧ ∀ p, H p = none → Q (.ref p) (upd H p (.tup [.int (f s a b).1, .int (f s a b).2]))
theorem use_pair {f : Int → Int → Int → Int × Int} {s a b : Int} {H : Hp} {Q : VK} {E : XK} (h1 : 0 ≤ s) (h2 : s < 4) (q : ∀ p, H p = none → Q (.ref p) (upd H p (.tup [.int (f s a b).1, .int (f s a b).2]))) : spPair f ([.int s, .int a, .int b] ++ []) H Q E := ⟨s, a, b, rfl, h1, h2, q⟩
def spCkP : Sp := fun vs H Q _ => ∃ s a b, vs = [.int s, .int a, .int b] ∧ 0 ≤ s ∧ s < 4 ∧ Q .non H
theorem use_ckp {s a b : Int} {H : Hp} {Q : VK} {E : XK} (h1 : 0 ≤ s) (h2 : s < 4) (q : Q .non H) : spCkP ([.int s, .int a, .int b] ++ []) H Q E := ⟨s, a, b, rfl, h1, h2, q⟩
def spLFold : Sp := fun vs H Q _ => ∃ s a b, vs = [.int s, .int a, .int b] ∧ 0 ≤ s ∧ s < 4 ∧ ∀ p H', Same H H' → H' p = some (.tup [.int (foldP s a b).1, .int (foldP s a b).2]) → Q (.ref p) H'
theorem use_lfold {s a b : Int} {H : Hp} {Q : VK} {E : XK} (h1 : 0 ≤ s) (h2 : s < 4) (q : ∀ p H', Same H H' → H' p = some (.tup [.int (foldP s a b).1, .int (foldP s a b).2]) → Q (.ref p) H') : spLFold ([.int s, .int a, .int b] ++ []) H Q E := ⟨s, a, b, rfl, h1, h2, q⟩
def spIsPair : Sp := fun vs H Q _ => ∃ p x y, vs = [.ref p] ∧ H p = some (.tup [.int x, .int y]) ∧ Q (.bl true) H
theorem use_ispair {p : Addr} {x y : Int} {H : Hp} {Q : VK} {E : XK} (h : H p = some (.tup [.int x, .int y])) (q : Q (.bl true) H) : spIsPair ([.ref p] ++ []) H Q E := ⟨p, x, y, rfl, h, q⟩
theorem look_upd {H : Hp} {p a : Addr} {o u : HO} (n : a ≠ p) (h : H a = some u) : upd H p o a = some u := by rw [upd_ne n]; exact h
theorem ixN_nat {n j : Nat} (h : j < n) : ixN n (j : Int) = some j := by
  unfold ixN
  rw [if_pos (show (0 : Int) ≤ (j : Int) by omega), if_pos (show (j : Int) < (n : Int) by omega)]
  rfl
def Kp2 (p q : Addr) (H H' : Hp) : Prop := ∀ a o, a ≠ p → a ≠ q → H a = some o → H' a = some o
theorem Kp2.refl {p q : Addr} {H : Hp} : Kp2 p q H H := fun _ _ _ _ h => h
theorem Kp2.trans {p q : Addr} {H H1 H2 : Hp} (a : Kp2 p q H H1) (b : Kp2 p q H1 H2) : Kp2 p q H H2 := fun c o n m h => b c o n m (a c o n m h)
theorem Kp2.ofK {p q : Addr} {H H' : Hp} (k : Kp p H H') : Kp2 p q H H' := fun a o n _ h => k a o n h
theorem Kp2.ofS {p q : Addr} {H H' : Hp} (k : Same H H') : Kp2 p q H H' := fun a o _ _ h => k a o h
theorem Kp2.new {p q r : Addr} {H : Hp} {o : HO} (h : H r = none) : Kp2 p q H (upd H r o) := .ofS (same_new h)
theorem Kp2.at {p q : Addr} {H : Hp} {o : HO} : Kp2 p q H (upd H q o) := fun a x _ n h => by rw [upd_ne n]; exact h
theorem close_turn {p : Addr} {H H1 H2 H3 : Hp} (s : Same H H1) (n : H1 p = none) (s2 : Same H1 H2) (k : Kp p H2 H3) : Same H H3 := same_kp (s.trans s2) (s.free n) k
theorem mm_nat (n c : Nat) (hc : 1 ≤ c) : (if (if (c : Int) < (n : Int) then (c : Int) else (n : Int)) > 1 then (if (c : Int) < (n : Int) then (c : Int) else (n : Int)) else 1).toNat ≤ c := by
  split
  · split <;> omega
  · split <;> omega
def spLaw (K : PySem.W.Frag) : Sp := fun vs H Q _ => ∃ (a : Addr) (ns : List Int), vs = [.ref a] ∧ SqL K H a (ns.map V.int) ∧ ns.length ≤ 63 ∧ ∀ H', Q (.bl true) H'
theorem if_no {c : Bool} {A B : Prop} (h : c = false) (q : B) : if c = true then A else B := by rw [h]; exact iteF q
theorem if_yes {c : Bool} {A B : Prop} (h : c = true) (q : A) : if c = true then A else B := by rw [h]; exact iteT q
theorem if_noD {p : Prop} [Decidable p] {A B : Prop} (h : ¬ p) (q : B) : if decide p = true then A else B := if_no (decide_eq_false h) q
theorem if_yesD {p : Prop} [Decidable p] {A B : Prop} (h : p) (q : A) : if decide p = true then A else B := if_yes (decide_eq_true h) q
theorem if_noN {p : Prop} [Decidable p] {A B : Prop} (h : p) (q : B) : if (!decide p) = true then A else B := if_no (by rw [decide_eq_true h]; rfl) q
theorem if_yesN {p : Prop} [Decidable p] {A B : Prop} (h : ¬ p) (q : A) : if (!decide p) = true then A else B := if_yes (by rw [decide_eq_false h]; rfl) q
theorem canLay_ints : ∀ ns : List Int, PyData.canLayAll0 (ns.map PyData.int) = true
  | [] => rfl
  | n :: r => by
    show (PyData.canLay0 (.int n) && PyData.canLayAll0 (r.map PyData.int)) = true
    rw [canLay_ints r]
    rfl
theorem depth_ints : ∀ ns : List Int, PyData.depthAll (ns.map PyData.int) = 0
  | [] => rfl
  | n :: r => by
    show max (PyData.depth (.int n)) (PyData.depthAll (r.map PyData.int)) = 0
    rw [depth_ints r]
    rfl
theorem shaped_ints (ns : List Int) : SeqAt.shaped (.list (ns.map PyData.int)) = true := by
  show (PyData.canLayAll0 (ns.map PyData.int) && decide (PyData.depthAll (ns.map PyData.int) + 1 ≤ 64)) = true
  rw [canLay_ints, depth_ints]
  rfl
theorem eqv_ints : ∀ ns ms : List Int, PyData.eqvAll (ns.map PyData.int) (ms.map PyData.int) = decide (ns = ms)
  | [], [] => by simp [PyData.eqvAll]
  | [], m :: r => by simp [PyData.eqvAll]
  | n :: r, [] => by simp [PyData.eqvAll]
  | n :: r, m :: t => by
    show (PyData.eqv (.int n) (.int m) && PyData.eqvAll (r.map PyData.int) (t.map PyData.int)) = decide (n :: r = m :: t)
    rw [eqv_ints r t]
    show ((n == m) && decide (r = t)) = decide (n :: r = m :: t)
    by_cases h : n = m
    · subst h
      simp
    · have e : (n == m) = false := by simpa using h
      rw [e, Bool.false_and]
      exact (decide_eq_false fun z => h (List.cons.inj z).1).symm
section
variable {K : PySem.W.Frag} {H : Hp} {Q : VK} {p q : Addr} {ns ms : List Int}
theorem rd_neL (hp : SqL K H p (ns.map V.int)) (hq : SqL K H q (ms.map V.int)) (h : Q (.bl (!decide (ns = ms))) H) : rNeD K (.ref p) (.ref q) H Q :=
  ⟨_, _, .lst hp (dp_ints ns), .lst hq (dp_ints ms), shaped_ints ns, shaped_ints ms, by
    rw [show PyData.eqv (.list (ns.map PyData.int)) (.list (ms.map PyData.int)) = decide (ns = ms) by rw [← eqv_ints]; simp only [PyData.eqv]]
    exact h⟩
theorem rd_eqL (hp : SqL K H p (ns.map V.int)) (hq : SqL K H q (ms.map V.int)) (h : Q (.bl (decide (ns = ms))) H) : rEqD K (.ref p) (.ref q) H Q :=
  ⟨_, _, .lst hp (dp_ints ns), .lst hq (dp_ints ms), shaped_ints ns, shaped_ints ms, by
    rw [show PyData.eqv (.list (ns.map PyData.int)) (.list (ms.map PyData.int)) = decide (ns = ms) by rw [← eqv_ints]; simp only [PyData.eqv]]
    exact h⟩
theorem rd_neN (hp : SqL K H p (ns.map V.int)) (hq : SqL K H q []) (h : Q (.bl (!decide (ns = []))) H) : rNeD K (.ref p) (.ref q) H Q := rd_neL (ms := []) hp hq h
end
section
variable {K : PySem.W.Frag} {σ : L2.St} {H : Hp} {Q : VK} {g : TG} {tb : TS} {D : Ends}
theorem rd_forE {ts : TA} (h : ts σ H fun vs H1 => ∃ a xs, vs = [.ref a] ∧ SqL K H1 a xs ∧ LpW (Ite K a) g tb D σ H1) : tFor (iEnum K ts) g tb D σ H := h
theorem rd_lpE {a : Addr} {xs : List V} (e : SqL K H a xs) (h : LpW (Ite K a) g tb D σ H) : ∃ b ys, [V.ref a] = [.ref b] ∧ SqL K H b ys ∧ LpW (Ite K b) g tb D σ H := ⟨a, xs, rfl, e, h⟩
theorem for_enum {a : Addr} {xs : List V} (Pv : Nat → L2.St → Hp → Prop) (h0 : Pv 0 σ H) (hl : ∀ i σ H, i ≤ xs.length → Pv i σ H → SqL K H a xs)
    (hs : ∀ i x σ H T, xs[i]? = some x → Pv i σ H → H T = none → g (.ref T) σ (upd H T (.tup [.int (i : Nat), x])) fun σ2 H2 => tb { D with nx := Pv (i + 1), ct := Pv (i + 1), bk := D.nx } σ2 H2) (hd : ∀ σ H, Pv xs.length σ H → D.nx σ H) : LpW (Ite K a) g tb D σ H := by
  refine ⟨fun i m σ H => m = xs.length - i ∧ i ≤ xs.length ∧ Pv i σ H, ⟨xs.length, by simp, Nat.zero_le _, h0⟩, ?_⟩
  rintro i m σ H ⟨rfl, hi, p⟩
  have q := hl i σ H hi p
  by_cases hlt : i < xs.length
  · refine .inr ⟨⟨xs, xs[i], q, by simp [hlt]⟩, Pv (i + 1), fun σ' H' p' => ⟨xs.length - (i + 1), by omega, rfl, hlt, p'⟩, fun x H' y => ?_⟩
    obtain ⟨T, x1, rfl, nT, rfl, y⟩ := y
    exact hs i x1 σ H T (y xs q) p nT
  · have e : i = xs.length := by omega
    subst e
    exact .inl ⟨⟨xs, q, Nat.le_refl _⟩, hd σ H p⟩
theorem rd_forZ {ts : TA} (h : ts σ H fun vs H1 => ∃ a b xs ys, vs = [.ref a, .ref b] ∧ ((SqL K H1 a xs ∧ SqL K H1 b ys ∧ LpW (Itz K a b) g tb D σ H1) ∨ (SqT K H1 a xs ∧ SqT K H1 b ys ∧ LpW (RZ.ItzT K a b) g tb D σ H1))) : tFor (RZ.iZipA K ts) g tb D σ H := h
theorem for_zip {a b : Addr} {xs ys : List V} (hln : xs.length = ys.length) (Pv : Nat → L2.St → Hp → Prop) (h0 : Pv 0 σ H) (hl : ∀ i σ H, i ≤ xs.length → Pv i σ H → SqL K H a xs ∧ SqL K H b ys)
    (hs : ∀ i x y σ H T, xs[i]? = some x → ys[i]? = some y → Pv i σ H → H T = none → g (.ref T) σ (upd H T (.tup [x, y])) fun σ2 H2 => tb { D with nx := Pv (i + 1), ct := Pv (i + 1), bk := D.nx } σ2 H2) (hd : ∀ σ H, Pv xs.length σ H → D.nx σ H) : LpW (Itz K a b) g tb D σ H := by
  refine ⟨fun i m σ H => m = xs.length - i ∧ i ≤ xs.length ∧ Pv i σ H, ⟨xs.length, by simp, Nat.zero_le _, h0⟩, ?_⟩
  rintro i m σ H ⟨rfl, hi, p⟩
  obtain ⟨q1, q2⟩ := hl i σ H hi p
  by_cases hlt : i < xs.length
  · have hlt2 : i < ys.length := by omega
    refine .inr ⟨⟨xs, ys, xs[i], ys[i], q1, q2, by simp [hlt], by simp [hlt2]⟩, Pv (i + 1), fun σ' H' p' => ⟨xs.length - (i + 1), by omega, rfl, hlt, p'⟩, fun x H' y => ?_⟩
    obtain ⟨T, x1, y1, rfl, nT, rfl, f1, f2⟩ := y
    exact hs i x1 y1 σ H T (f1 xs q1) (f2 ys q2) p nT
  · have e : i = xs.length := by omega
    subst e
    exact .inl ⟨⟨xs, ys, q1, q2, .inl (Nat.le_refl _)⟩, hd σ H p⟩
theorem for_zipT {a b : Addr} {xs ys : List V} (hln : xs.length = ys.length) (Pv : Nat → L2.St → Hp → Prop) (h0 : Pv 0 σ H) (hl : ∀ i σ H, i ≤ xs.length → Pv i σ H → SqT K H a xs ∧ SqT K H b ys)
    (hs : ∀ i x y σ H T, xs[i]? = some x → ys[i]? = some y → Pv i σ H → H T = none → g (.ref T) σ (upd H T (.tup [x, y])) fun σ2 H2 => tb { D with nx := Pv (i + 1), ct := Pv (i + 1), bk := D.nx } σ2 H2) (hd : ∀ σ H, Pv xs.length σ H → D.nx σ H) : LpW (RZ.ItzT K a b) g tb D σ H := by
  refine ⟨fun i m σ H => m = xs.length - i ∧ i ≤ xs.length ∧ Pv i σ H, ⟨xs.length, by simp, Nat.zero_le _, h0⟩, ?_⟩
  rintro i m σ H ⟨rfl, hi, p⟩
  obtain ⟨q1, q2⟩ := hl i σ H hi p
  by_cases hlt : i < xs.length
  · have hlt2 : i < ys.length := by omega
    refine .inr ⟨⟨xs, ys, xs[i], ys[i], q1, q2, by simp [hlt], by simp [hlt2]⟩, Pv (i + 1), fun σ' H' p' => ⟨xs.length - (i + 1), by omega, rfl, hlt, p'⟩, fun x H' y => ?_⟩
    obtain ⟨T, x1, y1, rfl, nT, rfl, f1, f2⟩ := y
    exact hs i x1 y1 σ H T (f1 xs q1) (f2 ys q2) p nT
  · have e : i = xs.length := by omega
    subst e
    exact .inl ⟨⟨xs, ys, q1, q2, .inl (Nat.le_refl _)⟩, hd σ H p⟩
def LcW (J : It) (g : TG) (tt : TT) (te : TE) (vs : List Nat) (Q : VK) (σ : L2.St) (H1 : Hp) (D : Addr) : Prop := ∃ W : Nat → Nat → Hp → Prop, (∃ m, W 0 m (upd H1 D (.lst []))) ∧ ∀ i m H, W i m H →
  (J.stop i H ∧ Q (.ref D) H) ∨ (J.go i H ∧ ∃ Nx : Hp → Prop, (∀ H', Nx H' → ∃ m', m' < m ∧ W (i + 1) m' H') ∧ ∀ x H', J.yld i H x H' → g x (wipe σ vs) H' fun σ2 H2 => wipe σ2 vs = wipe σ vs ∧ tt σ2 H2 fun b H3 =>
    if b = true then te σ2 H3 fun y H4 => ∃ acc, H4 D = some (.lst acc) ∧ acc.length < sizeLine ∧ Nx (upd H4 D (.lst (acc ++ [y]))) else Nx H3)
theorem rd_lc1 {ts : TA} {tt : TT} {te : TE} {vs : List Nat} (h : ts σ H fun us H1 => ∃ j : Int, us = [.int j] ∧ -(2 ^ 62) ≤ j ∧ j < 2 ^ 62 ∧ ∀ D, H1 D = none → LcW (Itr 0 j.toNat) g tt te vs Q σ H1 D) : tLc (iRng1 ts) g tt te vs σ H Q := h
theorem rd_yes {σ : L2.St} {H : Hp} {A B : Hp → Prop} (h : A H) : tYes σ H fun b H3 => if b = true then A H3 else B H3 := by
  show if true = true then A H else B H
  rw [if_pos rfl]
  exact h
theorem kp_app {p D : Addr} {H1 H H' : Hp} {o : HO} (hD : H1 D = none) (k : Kp p H1 H) (k2 : Kp p H H') : Kp p H1 (upd H' D o) := fun a x n e => by
  rw [upd_ne (ne_of_none e hD)]
  exact k2 a x n (k a x n e)
theorem rd_lcD {J : It} {tt : TT} {te : TE} {vs : List Nat} (h : ∀ D, H D = none → LcW J g tt te vs Q σ H D) : ∀ D, H D = none → LcW J g tt te vs Q σ H D := h
theorem lc_numbers {vs : List Nat} {i k : Nat} {p D : Addr} {n : Nat} {H1 : Hp} (hσ : ∀ v, ((wipe σ vs).set k (some v))[i]? = some (some (.ref p))) (hw : ∀ v, wipe ((wipe σ vs).set k (some v)) vs = wipe σ vs) (hP : Pool H1 p) (hD : H1 D = none) (hn : n ≤ 1000)
    (q : ∀ (ns : List Int) H', ns.length = n → (∀ z ∈ ns, z.natAbs < 10 ^ 55) → Pool H' p → Kp p H1 H' → H' D = some (.lst (ns.map V.int)) → Q (.ref D) H') :
    LcW (Itr 0 n) (gName k) tYes (tCall spNumber [] E0 (tCons (tVar i) tNil)) vs Q σ H1 D := by
  have hDp : D ≠ p := hP.ne hD
  refine lc_range (Pv := fun j H => ∃ ns : List Int, ns.length = j ∧ (∀ z ∈ ns, z.natAbs < 10 ^ 55) ∧ Pool H p ∧ Kp p H1 H ∧ H D = some (.lst (ns.map V.int))) ⟨[], rfl, List.forall_mem_nil _, hP.new hD, Kp.new hD, upd_same⟩ (fun j H hj hI => ?_) (fun H hI => ?_)
  · obtain ⟨ns, hl, hb, hP', hK, hd⟩ := hI
    refine ⟨hw _, rd_yes ?_⟩
    refine rd_call (rd_cons (rd_var (hσ _) (rd_nil (use_number hP' fun r H' hr hP2 hK2 => ?_))))
    refine ⟨_, hK2 _ _ hDp hd, ?_, ns ++ [r], ?_, ?_, ?_, kp_app hD hK hK2, ?_⟩
    · rw [List.length_map]
      exact small1000 (by omega)
    · rw [List.length_append, hl]
      rfl
    · intro z hz
      rcases List.mem_append.mp hz with hz | hz
      · exact hb z hz
      · rw [List.mem_singleton.mp hz]
        exact hr
    · obtain ⟨x, y, e, r⟩ := hP2
      exact ⟨x, y, by rw [upd_ne hDp.symm]; exact e, r⟩
    · rw [upd_same, List.map_append]
      rfl
  · obtain ⟨ns, hl, hb, hP', hK, hd⟩ := hI
    exact q ns H hl hb hP' hK hd
end
def scalarV : V → Bool
  | .non => true
  | .bl _ => true
  | .int _ => true
  | .str _ => true
  | _ => false
def LstV (K : PySem.W.Frag) (H : Hp) (a : Addr) (xs : List V) : Prop := SqL K H a xs ∧ TyX K H (.ref a) (.type "list")
def TupV (K : PySem.W.Frag) (H : Hp) (a : Addr) (xs : List V) : Prop := SqT K H a xs ∧ TyX K H (.ref a) (.type "tuple")
def SmV (K : PySem.W.Frag) (H : Hp) : Nat → V → V → Prop
  | 0, x, y => x = y ∧ scalarV x = true
  | n + 1, x, y => (x = y ∧ scalarV x = true) ∨ (∃ a b xs ys, x = .ref a ∧ y = .ref b ∧ LstV K H a xs ∧ LstV K H b ys ∧ xs.length = ys.length ∧ ∀ (i : Nat) x y, xs[i]? = some x → ys[i]? = some y → SmV K H n x y) ∨
      ∃ a b xs ys, x = .ref a ∧ y = .ref b ∧ TupV K H a xs ∧ TupV K H b ys ∧ xs.length = ys.length ∧ ∀ (i : Nat) x y, xs[i]? = some x → ys[i]? = some y → SmV K H n x y
theorem LstV.of {K : PySem.W.Frag} {H : Hp} {a : Addr} {xs : List V} (h : H a = some (.lst xs)) : LstV K H a xs := ⟨SqL.of h, .base (.lst h)⟩
theorem TupV.of {K : PySem.W.Frag} {H : Hp} {a : Addr} {xs : List V} (h : H a = some (.tup xs)) : TupV K H a xs := ⟨SqT.of h, .base (.tup h)⟩
section
variable {K : PySem.W.Frag} {H H' : Hp}
theorem tyo_same {x : V} {t : Value} (s : Same H H') (h : TyOf K H x t) : TyOf K H' x t := by
  cases h with
  | non => exact .non
  | bl x => exact .bl x
  | int i => exact .int i
  | str x => exact .str x
  | flt x => exact .flt x
  | lst e => exact .lst (s _ _ e)
  | frz e => exact .frz (s _ _ e)
  | tup e => exact .tup (s _ _ e)
  | dK e => exact .dK (s _ _ e)
  | dT e => exact .dT (s _ _ e)
  | ins e cl ha hn htk hm => exact .ins (s _ _ e) cl ha hn htk hm
theorem tyx_same {x : V} {t : Value} (s : Same H H') (h : TyX K H x t) : TyX K H' x t := by
  cases h with
  | base b => exact .base (tyo_same s b)
  | byt b => exact .byt b
  | set e => exact .set (s _ _ e)
  | kList e c => exact .kList e c
  | kTuple e c => exact .kTuple e c
  | kDict e c => exact .kDict e c
  | fTuple e => exact .fTuple (s _ _ e)
  | fDict e => exact .fDict (s _ _ e)
theorem LstV.same {a : Addr} {xs : List V} (s : Same H H') (h : LstV K H a xs) : LstV K H' a xs := ⟨s.seq h.1, tyx_same s h.2⟩
theorem same_seqT {a : Addr} {xs : List V} (s : Same H H') (h : SqT K H a xs) : SqT K H' a xs := by
  rcases h with (h | ⟨o, h⟩) | h
  · exact .inl (.inl (s _ _ h))
  · exact .inl (.inr ⟨o, s _ _ h⟩)
  · exact .inr h
theorem TupV.same {a : Addr} {xs : List V} (s : Same H H') (h : TupV K H a xs) : TupV K H' a xs := ⟨same_seqT s h.1, tyx_same s h.2⟩
theorem SmV.same (s : Same H H') : ∀ (n : Nat) {x y : V}, SmV K H n x y → SmV K H' n x y
  | 0, _, _, h => h
  | n + 1, x, y, h => by
    rcases h with h | ⟨a, b, xs, ys, e1, e2, h1, h2, l, h⟩ | ⟨a, b, xs, ys, e1, e2, h1, h2, l, h⟩
    · exact .inl h
    · exact .inr (.inl ⟨a, b, xs, ys, e1, e2, h1.same s, h2.same s, l, fun i x y a b => SmV.same s n (h i x y a b)⟩)
    · exact .inr (.inr ⟨a, b, xs, ys, e1, e2, h1.same s, h2.same s, l, fun i x y a b => SmV.same s n (h i x y a b)⟩)
theorem isi_ty {Q : VK} {x : V} {t n : String} {d : Bool} (h : TyX K H x (.type t)) (e : kitB t n = some d) (q : Q (.bl d) H) : rIsi K [x, .ty n] H Q := rd_isi (.ty n) h (kit_ty e) q
theorem sm_ints {p q : Addr} {ns : List Int} (hp : H p = some (.lst (ns.map V.int))) (hq : H q = some (.lst (ns.map V.int))) : SmV K H 1 (.ref p) (.ref q) :=
  .inr (.inl ⟨p, q, _, _, rfl, rfl, .of hp, .of hq, rfl, fun i x y e1 e2 => by
    rw [e1] at e2
    have e := Option.some.inj e2
    subst e
    rw [List.getElem?_map] at e1
    cases g : ns[i]? with
    | none => rw [g] at e1; cases e1
    | some z => rw [g] at e1; cases e1; exact ⟨rfl, rfl⟩⟩)
end
theorem sm_sc {K : PySem.W.Frag} {H : Hp} {x : V} (h : scalarV x = true) : ∀ {n : Nat}, SmV K H n x x
  | 0 => ⟨rfl, h⟩
  | _ + 1 => .inl ⟨rfl, h⟩
def spSame (K : PySem.W.Frag) (n : Nat) : Sp := fun vs H Q _ => ∃ x y, vs = [x, y] ∧ SmV K H n x y ∧ ∀ H', Same H H' → Q (.bl true) H'
theorem use_same {K : PySem.W.Frag} {n : Nat} {x y : V} {H : Hp} {Q : VK} {E : XK} (h : SmV K H n x y) (q : ∀ H', Same H H' → Q (.bl true) H') : spSame K n ([x, y] ++ []) H Q E := ⟨x, y, rfl, h, q⟩
def spItems (K : PySem.W.Frag) : Sp := fun vs H Q _ => ∃ (a : Addr) (ns : List Int), vs = [.ref a] ∧ SqL K H a (ns.map V.int) ∧ ∀ H', Same H H' → Q .non H'
theorem use_items {K : PySem.W.Frag} {a : Addr} {ns : List Int} {H : Hp} {Q : VK} {E : XK} (h : SqL K H a (ns.map V.int)) (q : ∀ H', Same H H' → Q .non H') : spItems K ([.ref a] ++ []) H Q E := ⟨a, ns, rfl, h, q⟩
def spBlock : Sp := fun vs H Q _ => ∃ (a : Addr) (ns : List Int) (least : Int), vs = [.ref a, .int least] ∧ H a = some (.lst (ns.map V.int)) ∧ least ≤ ns.length ∧ ns.length ≤ 64 ∧ ∀ H', Same H H' → Q .non H'
theorem use_block {a : Addr} {ns : List Int} {least : Int} {H : Hp} {Q : VK} {E : XK} (h : H a = some (.lst (ns.map V.int))) (h1 : least ≤ ns.length) (h2 : ns.length ≤ 64) (q : ∀ H', Same H H' → Q .non H') : spBlock ([.ref a, .int least] ++ []) H Q E := ⟨a, ns, least, rfl, h, h1, h2, q⟩
def codeU (n : Int) : Int := if n ≥ 0 then 2 * n else -2 * n - 1
def spCode : Sp := fun vs H Q _ => ∃ n, vs = [.int n] ∧ Q (.int (codeU n)) H
theorem use_code {n : Int} {H : Hp} {Q : VK} {E : XK} (q : Q (.int (codeU n)) H) : spCode ([.int n] ++ []) H Q E := ⟨n, rfl, q⟩
def markF (ns : List Int) : Int := ns.foldl (fun m n => (m * 31 + codeU n) % 9973) 1
theorem markF_snoc (ns : List Int) (z : Int) : markF (ns ++ [z]) = (markF ns * 31 + codeU z) % 9973 := by
  unfold markF
  rw [List.foldl_append]
  rfl
theorem foldm_bound : ∀ (ns : List Int) (m : Int), 0 ≤ m → m < 9973 → 0 ≤ ns.foldl (fun m n => (m * 31 + codeU n) % 9973) m ∧ ns.foldl (fun m n => (m * 31 + codeU n) % 9973) m < 9973
  | [], m, h0, h1 => ⟨h0, h1⟩
  | n :: r, m, _, _ => foldm_bound r _ (Int.emod_nonneg _ (by decide)) (Int.emod_lt_of_pos _ (by decide))
theorem markF_bound (ns : List Int) : 0 ≤ markF ns ∧ markF ns < 9973 := foldm_bound ns 1 (by decide) (by decide)
def spMark : Sp := fun vs H Q _ => ∃ (a : Addr) (ns : List Int), vs = [.ref a] ∧ H a = some (.lst (ns.map V.int)) ∧ ns.length ≤ 64 ∧ ∀ H', Same H H' → Q (.int (markF ns)) H'
theorem use_mark {a : Addr} {ns : List Int} {H : Hp} {Q : VK} {E : XK} (h : H a = some (.lst (ns.map V.int))) (h2 : ns.length ≤ 64) (q : ∀ H', Same H H' → Q (.int (markF ns)) H') : spMark ([.ref a] ++ []) H Q E := ⟨a, ns, rfl, h, h2, q⟩
def jx (u v : V) : Bool := match u, v with
  | .int w, .int t => decide (0 < w) || decide (t = 0)
  | _, _ => false
def jt (u v : V) : Bool := inI u 0 8 && (inI v 0 3 && jx u v)
theorem dec_i0 (t : Int) : decide (V.int t = V.int 0) = decide (t = 0) := decide_eq_decide.mpr ⟨V.int.inj, congrArg V.int⟩
inductive JR (H : Hp) : V → Bool → Prop where
  | flat {x : V} (h : scalarV x = true) : JR H x false
  | lst {a : Addr} {xs : List V} (h : H a = some (.lst xs)) : JR H (.ref a) false
  | tupn {a : Addr} {xs : List V} (h : H a = some (.tup xs)) (n : xs.length ≠ 2) : JR H (.ref a) false
  | tup2 {a : Addr} {u v : V} (h : H a = some (.tup [u, v])) (hu : TyV H u) (hv : TyV H v) : JR H (.ref a) (jt u v)
def spJ : Sp := fun vs H Q _ => ∃ x b, vs = [x] ∧ JR H x b ∧ Q (.bl b) H
theorem use_j {x : V} {b : Bool} {H : Hp} {Q : VK} {E : XK} (h : JR H x b) (q : Q (.bl b) H) : spJ ([x] ++ []) H Q E := ⟨x, b, rfl, h, q⟩
theorem jt_no1 {u v : V} (h : inI u 0 8 = false) : jt u v = false := by unfold jt; rw [h]; rfl
theorem jt_no2 {u v : V} (h : inI v 0 3 = false) : jt u v = false := by unfold jt; rw [h, Bool.false_and, Bool.and_false]
theorem inI_isI {x : V} {lo hi : Int} (h : inI x lo hi = true) : isI x = true := by
  cases x <;> first | rfl | exact Bool.noConfusion h
theorem isI_yes {x : V} (h : isI x = true) : ∃ i, x = .int i := by
  cases x <;> first | exact ⟨_, rfl⟩ | exact Bool.noConfusion h
def spS : List Int → List Int
  | a :: b :: r => ((a + b) / 2) :: spS r
  | r => r
def spD : List Int → List Int
  | a :: b :: r => (a - b) :: spD r
  | _ => []
/-- behind i levels: the sums, and the differences -/
def lvS (ns : List Int) : Nat → List Int
  | 0 => ns
  | i + 1 => spS (lvS ns i)
def lvR (ns : List Int) : Nat → List Int
  | 0 => []
  | i + 1 => spD (lvS ns i) ++ lvR ns i
def splitL (ns : List Int) (i : Nat) : List Int := lvS ns i ++ lvR ns i
theorem rg2 (n : Nat) (h : n ≤ 64) : RgC 0 ((n : Int) - 1) 2 (n / 2) := by
  have hs : Builtin.Range.rangeSize 0 ((n : Int) - 1) 2 = ((n / 2 : Nat) : Int) := by
    unfold Builtin.Range.rangeSize
    rw [if_pos (by decide)]
    split <;> omega
  refine ⟨by decide, by decide, ?_, hs⟩
  unfold Builtin.Range.small
  rw [hs]
  simp only [Builtin.Range.rangeFitsLong, Bool.and_eq_true, Bool.or_eq_true, decide_eq_true_eq, beq_iff_eq, show ((2 : Int) > 0) by decide, if_true]
  omega
section
variable {K : PySem.W.Frag} {σ : L2.St} {H : Hp} {Q : VK} {g : TG} {tb : TS} {D : Ends}
theorem rd_for3 {ts : TA} (h : ts σ H fun vs H1 => ∃ (i j c : Int) (n : Nat), vs = [.int i, .int j, .int c] ∧ RgC i j c n ∧ LpW (Itc i c n) g tb D σ H1) : tFor (iRng3 ts) g tb D σ H := h
theorem rd_n3 {n : Nat} {A : Int → Int → Int → Nat → Prop} (h : n ≤ 64) (q : A 0 ((n : Int) - 1) 2 (n / 2)) : ∃ (i j c : Int) (k : Nat), [V.int 0, V.int ((n : Int) - 1), V.int 2] = [.int i, .int j, .int c] ∧ RgC i j c k ∧ A i j c k := ⟨_, _, _, _, rfl, rg2 n h, q⟩
theorem rd_catL {a b : Addr} {xs ys : List Int} (h1 : H a = some (.lst (xs.map V.int))) (h2 : H b = some (.lst (ys.map V.int))) (n : xs.length + ys.length ≤ 1000) (q : ∀ p, H p = none → Q (.ref p) (upd H p (.lst ((xs ++ ys).map V.int)))) : rCat (.ref a) (.ref b) H Q :=
  ⟨a, b, _, _, rfl, rfl, h1, h2, by rw [List.length_map, List.length_map]; exact Nat.le_of_lt (small1000 n), fun p hp => by rw [← List.map_append]; exact q p hp⟩
theorem rd_appI {a : Addr} {xs : List Int} {z : Int} (h : H a = some (.lst (xs.map V.int))) (n : xs.length ≤ 1000) (q : Q .non (upd H a (.lst ((xs ++ [z]).map V.int)))) : rAppend (.ref a) [.int z] H Q :=
  ⟨a, _, _, rfl, rfl, h, by rw [List.length_map]; exact small1000 n, by rw [List.map_append] at q; exact q⟩
theorem rd_sl {te : TE} {tl th : TO} {r : V → Option Int → Option Int → Hp → VK → Prop} (h : te σ H fun x H1 => tl σ H1 fun l H2 => th σ H2 fun u H3 => r x l u H3 Q) : L2.tSl r te tl th σ H Q := h
theorem rd_part {te : TE} {q : Option Int → Hp → Prop} (h : te σ H fun x H1 => ∃ i, x = .int i ∧ q (some i) H1) : tPart te σ H q := h
theorem rd_nopart {q : Option Int → Hp → Prop} (h : q none H) : tNoPart σ H q := h
theorem rd_oneI {i : Int} {P : Int → Prop} (h : P i) : ∃ j, V.int i = .int j ∧ P j := ⟨i, rfl, h⟩
theorem rd_bm {m : V → List V → Hp → VK → Prop} {to : TE} {ts : TA} (h : to σ H fun x H1 => tyV K "list" x H1 ∧ ts σ H1 fun xs H2 => m x xs H2 Q) : tBM K "list" m to ts σ H Q := h
theorem rd_tyL {a : Addr} {xs : List V} {P : Prop} (h : H a = some (.lst xs)) (q : P) : tyV K "list" (.ref a) H ∧ P := ⟨.inl ⟨rfl, _, .inl (.inl h)⟩, q⟩
end
def spOnce (K : PySem.W.Frag) : Sp := fun vs H Q _ => ∃ (a : Addr) (ns : List Int), vs = [.ref a] ∧ SqL K H a (ns.map V.int) ∧ ns.length ≤ 64 ∧ ∀ p s d H', Same H H' → H' p = some (.tup [.ref s, .ref d]) → H' s = some (.lst ((spS ns).map V.int)) → H' d = some (.lst ((spD ns).map V.int)) → H s = none → Q (.ref p) H'
theorem use_once {K : PySem.W.Frag} {a : Addr} {ns : List Int} {H : Hp} {Q : VK} {E : XK} (h : SqL K H a (ns.map V.int)) (n : ns.length ≤ 64) (q : ∀ p s d H', Same H H' → H' p = some (.tup [.ref s, .ref d]) → H' s = some (.lst ((spS ns).map V.int)) → H' d = some (.lst ((spD ns).map V.int)) → H s = none → Q (.ref p) H') : spOnce K ([.ref a] ++ []) H Q E := ⟨a, ns, rfl, h, n, q⟩
def spSplit : Sp := fun vs H Q _ => ∃ (a : Addr) (ns : List Int) (k : Int), vs = [.ref a, .int k] ∧ H a = some (.lst (ns.map V.int)) ∧ 1 ≤ ns.length ∧ ns.length ≤ 64 ∧ 0 ≤ k ∧ k ≤ 5 ∧ ∀ p H', H p = none → Same H H' → H' p = some (.lst ((splitL ns k.toNat).map V.int)) → Q (.ref p) H'
theorem use_split {a : Addr} {ns : List Int} {k : Int} {H : Hp} {Q : VK} {E : XK} (h : H a = some (.lst (ns.map V.int))) (h1 : 1 ≤ ns.length) (h2 : ns.length ≤ 64) (h3 : 0 ≤ k) (h4 : k ≤ 5) (q : ∀ p H', H p = none → Same H H' → H' p = some (.lst ((splitL ns k.toNat).map V.int)) → Q (.ref p) H') : spSplit ([.ref a, .int k] ++ []) H Q E := ⟨a, ns, k, rfl, h, h1, h2, h3, h4, q⟩
theorem use_splitK {a : Addr} {ns : List Int} {k : Int} {H : Hp} {Q : VK} {E : XK} (h : H a = some (.lst (ns.map V.int))) (h1 : 1 ≤ ns.length) (h2 : ns.length ≤ 64) (h3 : 0 ≤ k) (h4 : k ≤ 5) (q : ∀ p H', H p = none → Same H H' → H' p = some (.lst ((splitL ns k.toNat).map V.int)) → Q (.ref p) H') : spSplit (kg 0 2 [1, 0] [] [.int k, .ref a]) H Q E := ⟨a, ns, k, rfl, h, h1, h2, h3, h4, q⟩
def jn : List Int → List Int → List Int
  | s :: S, d :: D => (s - d / 2 + d) :: (s - d / 2) :: jn S D
  | S, _ => S
theorem jn_nil (S : List Int) : jn S [] = S := by
  cases S <;> simp [jn]
theorem jn_cons (s d : Int) (S D : List Int) : jn (s :: S) (d :: D) = (s - d / 2 + d) :: (s - d / 2) :: jn S D := by simp [jn]
theorem spS_cons (a b : Int) (r : List Int) : spS (a :: b :: r) = ((a + b) / 2) :: spS r := by simp [spS]
theorem spD_cons (a b : Int) (r : List Int) : spD (a :: b :: r) = (a - b) :: spD r := by simp [spD]
theorem jn_length : ∀ S D : List Int, D.length ≤ S.length → (jn S D).length = S.length + D.length
  | S, [], _ => by rw [jn_nil]; rfl
  | [], d :: D, h => by simp at h
  | s :: S, d :: D, h => by
    rw [jn_cons]
    have := jn_length S D (by simpa using h)
    simp only [List.length_cons]
    omega
theorem sp_jn : ∀ S D : List Int, D.length ≤ S.length → S.length ≤ D.length + 1 → spS (jn S D) = S ∧ spD (jn S D) = D
  | [], [], _, _ => by simp [jn, spS, spD]
  | [s], [], _, _ => by simp [jn, spS, spD]
  | s :: t :: S, [], _, h => by simp at h
  | [], d :: D, h, _ => by simp at h
  | s :: S, d :: D, h1, h2 => by
    have ih := sp_jn S D (by simpa using h1) (by simpa using h2)
    rw [jn_cons, spS_cons, spD_cons, ih.1, ih.2]
    constructor
    · congr 1
      omega
    · congr 1
      omega
/-- how many are coarse -/
def cc (n : Nat) : Nat → Nat
  | 0 => n
  | i + 1 => (cc n i + 1) / 2
theorem cc_le (n : Nat) : ∀ i, cc n (i + 1) ≤ cc n i
  | 0 => by show (n + 1) / 2 ≤ n; omega
  | i + 1 => by show (cc n (i + 1) + 1) / 2 ≤ cc n (i + 1); omega
theorem cc_n (n : Nat) : ∀ i, cc n i ≤ n
  | 0 => Nat.le_refl _
  | i + 1 => Nat.le_trans (cc_le n i) (cc_n n i)
/-- the values when j of m levels are joined -/
def wv (ns : List Int) (m : Nat) : Nat → List Int
  | 0 => ns.take (cc ns.length m)
  | j + 1 => jn (wv ns m j) ((ns.drop (cc ns.length (m - j))).take (cc ns.length (m - (j + 1)) - cc ns.length (m - j)))
theorem wv_step {ns : List Int} {m j : Nat} (h : j + 1 ≤ m) (hl : (wv ns m j).length = cc ns.length (m - j)) :
    ((ns.drop (cc ns.length (m - j))).take (cc ns.length (m - (j + 1)) - cc ns.length (m - j))).length = cc ns.length (m - (j + 1)) - cc ns.length (m - j) ∧ cc ns.length (m - j) = (cc ns.length (m - (j + 1)) + 1) / 2 := by
  have e : m - j = (m - (j + 1)) + 1 := by omega
  have c : cc ns.length (m - j) = (cc ns.length (m - (j + 1)) + 1) / 2 := by rw [e]; rfl
  refine ⟨?_, c⟩
  have := cc_n ns.length (m - (j + 1))
  rw [List.length_take, List.length_drop]
  omega
theorem wv_length (ns : List Int) (m : Nat) : ∀ j, j ≤ m → (wv ns m j).length = cc ns.length (m - j)
  | 0, _ => by
    show (ns.take (cc ns.length m)).length = cc ns.length m
    have := cc_n ns.length m
    rw [List.length_take]
    omega
  | j + 1, h => by
    have ih := wv_length ns m j (by omega)
    obtain ⟨h1, h2⟩ := wv_step h ih
    show (jn (wv ns m j) _).length = _
    rw [jn_length _ _ (by rw [h1, ih]; omega), h1, ih]
    omega
theorem wv_sp {ns : List Int} {m j : Nat} (h : j + 1 ≤ m) : spS (wv ns m (j + 1)) = wv ns m j ∧ spD (wv ns m (j + 1)) = (ns.drop (cc ns.length (m - j))).take (cc ns.length (m - (j + 1)) - cc ns.length (m - j)) := by
  have ih := wv_length ns m j (by omega)
  obtain ⟨h1, h2⟩ := wv_step h ih
  exact sp_jn _ _ (by rw [h1, ih]; omega) (by rw [h1, ih]; omega)
theorem lv_wv (ns : List Int) (m : Nat) : ∀ i, i ≤ m → lvS (wv ns m m) i = wv ns m (m - i) ∧ lvR (wv ns m m) i = ns.drop (cc ns.length i)
  | 0, _ => ⟨rfl, by
    show [] = ns.drop (cc ns.length 0)
    rw [show cc ns.length 0 = ns.length from rfl, List.drop_length]⟩
  | i + 1, h => by
    obtain ⟨a, b⟩ := lv_wv ns m i (by omega)
    have e : m - i = (m - (i + 1)) + 1 := by omega
    have w := wv_sp (ns := ns) (m := m) (j := m - (i + 1)) (by omega)
    rw [← e] at w
    refine ⟨?_, ?_⟩
    · show spS (lvS (wv ns m m) i) = _
      rw [a, w.1]
    · show spD (lvS (wv ns m m) i) ++ lvR (wv ns m m) i = _
      rw [a, b, w.2, show m - (m - (i + 1)) = i + 1 by omega, show m - (m - i) = i by omega]
      have c := cc_le ns.length i
      have d : cc ns.length i = cc ns.length (i + 1) + (cc ns.length i - cc ns.length (i + 1)) := by omega
      have z : ns.drop (cc ns.length i) = (ns.drop (cc ns.length (i + 1))).drop (cc ns.length i - cc ns.length (i + 1)) := by rw [List.drop_drop, ← d]
      rw [z, List.take_append_drop]
def joinL (ns : List Int) (m : Nat) : List Int := wv ns m m
theorem joinL_length (ns : List Int) (m : Nat) : (joinL ns m).length = ns.length := by
  unfold joinL
  rw [wv_length ns m m (Nat.le_refl _), Nat.sub_self]
  rfl
theorem split_join (ns : List Int) (m : Nat) : splitL (joinL ns m) m = ns := by
  unfold splitL joinL
  obtain ⟨a, b⟩ := lv_wv ns m m (Nat.le_refl _)
  rw [a, b, Nat.sub_self]
  exact List.take_append_drop _ _
section
variable {K : PySem.W.Frag} {σ : L2.St} {H : Hp} {Q : VK} {g : TG} {tb : TS} {D : Ends}
theorem rd_forV {te : TE} (h : te σ H fun x H1 => ∃ n, x = .int n ∧ (-(2 ^ 62) ≤ (0 : Int) ∧ (0 : Int) < 2 ^ 62 ∧ -(2 ^ 62) ≤ n ∧ n < 2 ^ 62 ∧ LpW (Itc (0 + (((n - 0).toNat : Nat) : Int) - 1) (-1) (n - 0).toNat) g tb D σ H1)) : tFor (iRevR (tRg1 te)) g tb D σ H := h
theorem rd_nV {n : Int} {P : Prop} (h1 : -(2 ^ 62) ≤ n) (h2 : n < 2 ^ 62) (q : P) : -(2 ^ 62) ≤ (0 : Int) ∧ (0 : Int) < 2 ^ 62 ∧ -(2 ^ 62) ≤ n ∧ n < 2 ^ 62 ∧ P := ⟨by decide, by decide, h1, h2, q⟩
end
def spCoarse : Sp := fun vs H Q _ => ∃ (n k : Nat), vs = [.int (n : Int), .int (k : Int)] ∧ 1 ≤ n ∧ n ≤ 64 ∧ k ≤ 5 ∧ Q (.int (cc n k : Nat)) H
theorem use_coarse {n k : Nat} {H : Hp} {Q : VK} {E : XK} (h1 : 1 ≤ n) (h2 : n ≤ 64) (h3 : k ≤ 5) (q : Q (.int (cc n k : Nat)) H) : spCoarse ([.int (n : Int), .int (k : Int)] ++ []) H Q E := ⟨n, k, rfl, h1, h2, h3, q⟩
def spJoin1 : Sp := fun vs H Q _ => ∃ (s d : Addr) (S D : List Int), vs = [.ref s, .ref d] ∧ H s = some (.lst (S.map V.int)) ∧ H d = some (.lst (D.map V.int)) ∧ D.length ≤ S.length ∧ S.length ≤ 64 ∧ ∀ p H', Same H H' → H p = none → H' p = some (.lst ((jn S D).map V.int)) → Q (.ref p) H'
theorem use_join1 {s d : Addr} {S D : List Int} {H : Hp} {Q : VK} {E : XK} (h1 : H s = some (.lst (S.map V.int))) (h2 : H d = some (.lst (D.map V.int))) (h3 : D.length ≤ S.length) (h4 : S.length ≤ 64) (q : ∀ p H', Same H H' → H p = none → H' p = some (.lst ((jn S D).map V.int)) → Q (.ref p) H') : spJoin1 ([.ref s, .ref d] ++ []) H Q E := ⟨s, d, S, D, rfl, h1, h2, h3, h4, q⟩
def spJoin : Sp := fun vs H Q _ => ∃ (a : Addr) (ns : List Int) (k : Int), vs = [.ref a, .int k] ∧ H a = some (.lst (ns.map V.int)) ∧ 1 ≤ ns.length ∧ ns.length ≤ 64 ∧ 0 ≤ k ∧ k ≤ 5 ∧ ∀ p H', H p = none → Same H H' → H' p = some (.lst ((joinL ns k.toNat).map V.int)) → Q (.ref p) H'
theorem use_join {a : Addr} {ns : List Int} {k : Int} {H : Hp} {Q : VK} {E : XK} (h : H a = some (.lst (ns.map V.int))) (h1 : 1 ≤ ns.length) (h2 : ns.length ≤ 64) (h3 : 0 ≤ k) (h4 : k ≤ 5) (q : ∀ p H', H p = none → Same H H' → H' p = some (.lst ((joinL ns k.toNat).map V.int)) → Q (.ref p) H') : spJoin ([.ref a, .int k] ++ []) H Q E := ⟨a, ns, k, rfl, h, h1, h2, h3, h4, q⟩
theorem use_joinK {a : Addr} {ns : List Int} {k : Int} {H : Hp} {Q : VK} {E : XK} (h : H a = some (.lst (ns.map V.int))) (h1 : 1 ≤ ns.length) (h2 : ns.length ≤ 64) (h3 : 0 ≤ k) (h4 : k ≤ 5) (q : ∀ p H', H p = none → Same H H' → H' p = some (.lst ((joinL ns k.toNat).map V.int)) → Q (.ref p) H') : spJoin (kg 0 2 [1, 0] [] [.int k, .ref a]) H Q E := ⟨a, ns, k, rfl, h, h1, h2, h3, h4, q⟩
def spInts : Sp := fun vs H Q _ => ∃ (a : Addr) (ns : List Int) (n : Int), vs = [.ref a, .int n] ∧ H a = some (.lst (ns.map V.int)) ∧ (ns.length : Int) = n ∧ Q (.bl true) H
theorem use_ints {a : Addr} {ns : List Int} {n : Int} {H : Hp} {Q : VK} {E : XK} (h : H a = some (.lst (ns.map V.int))) (h1 : (ns.length : Int) = n) (q : Q (.bl true) H) : spInts ([.ref a, .int n] ++ []) H Q E := ⟨a, ns, n, rfl, h, h1, q⟩
section
variable {K : PySem.W.Frag} {σ : L2.St} {H : Hp} {Q : VK} {g : TG}
theorem rd_lcL {ti te : TE} {tt : TT} {vs : List Nat} (h : ti σ H fun x H1 => ∃ a, x = .ref a ∧ (∃ xs, SqL K H1 a xs) ∧ ∀ D, H1 D = none → LcW (Itl K a) g tt te vs Q σ H1 D) : tLc (iList K ti) g tt te vs σ H Q := h
end
structure Dn (K : PySem.W.Frag) (mg : Str → Option Value) (x : Str) (st : Stmt) (ps : List Str) (f : Addr) (fd : FuncData) : Prop where
  F : Fun K x x st f fd
  g : mg x = some (.ref f)
  b : Binds K fd ps []
structure Bi (mg : Str → Option Value) : Prop where
  int_ : mg "int" = none
  bool_ : mg "bool" = none
  str_ : mg "str" = none
  list_ : mg "list" = none
  tuple_ : mg "tuple" = none
  len_ : mg "len" = none
  abs_ : mg "abs" = none
  max_ : mg "max" = none
  min_ : mg "min" = none
  range_ : mg "range" = none
  zip_ : mg "zip" = none
  isinstance_ : mg "isinstance" = none
  enumerate_ : mg "enumerate" = none
  reversed_ : mg "reversed" = none
end Z
namespace Z
open PySem PySem.Spec PyProof.Rows L2
def rIsX (K : PySem.W.Frag) (C a : Addr) (cls : Value) (d : Option Addr) : List V → Hp → VK → Prop := fun xs H Q =>
  ∃ (c : V) (cv : Value) (b : Bool) (dd : Addr) (fs : List (Str × V)), xs = [.ref a, c] ∧ cls = .ref C ∧ d = some dd ∧ H dd = some (.xd fs) ∧ (∀ u, RelV c u → u = cv) ∧ PySem.W.kitOne K (.ref C) cv = some b ∧ Q (.bl b) H
theorem call_isX {X : Cx} {a D : Addr} {oe : Obj} {cls : Value} {d : Option Addr} {pn : List (Addr × Obj)} (T : ExcC X.K D) (hz : Zc cls d oe) (hf : ∃ vs, oe.data = .fields vs) :
    CallR (X.suite a ((a, oe) :: pn)) (.builtin "isinstance") (rIsX X.K D a cls d) := by
  intro pins s σ H xs us Q I r h
  obtain ⟨c, cv, b, dd, fs, e1, e2, e3, e4, hcv, hk, q⟩ := h
  subst e1 e2 e3
  match r with
  | .cons (b := u1) ra (.cons (b := u2) rc .nil) =>
    obtain rfl : u1 = Value.ref a := ra
    obtain rfl := hcv _ rc
    have hp := (I.pin (a, oe) (List.mem_append_left _ List.mem_cons_self)).1
    obtain ⟨fv, hfv⟩ := hf
    have ho : ObjOk X.prog X.w H s.heap dd (.xd fs) := I.hok dd _ e4
    obtain ⟨mA, hns, _⟩ := ho
    obtain ⟨od, hod, _⟩ := lookIn_ns hns
    have J : PySem.W.InstAt s.heap a oe D (some od) := ⟨hp, hz.1, by simp [PySem.W.notCls, hfv], by rw [hz.2]; exact hod⟩
    have hc : (PySem.W.clsIn X.K D).isSome = true := by
      have h5 := T.hd
      unfold PySem.W.hasDictIn at h5
      cases e : PySem.W.clsIn X.K D with
      | none => rw [e] at h5; exact Bool.noConfusion h5
      | some cd => rfl
    exact PySem.W.kia_one (PySem.W.kitx_exc hc T.hg T.hk T.hs T.ha T.hn T.ht T.hm) I.kIn J hk (fun z => nomatch z) fun tk => ⟨.bl b, H, I.kept (t' := tk) fun _ _ z => z, rfl, q⟩
theorem mk_heap {H : Hp} {a d : Addr} {o1 o2 o3 o4 : HO} (ha : H a = none) (hd : d ≠ a) : upd (del (upd (upd (upd H a o1) d o2) a o3) a) d o4 = upd H d o4 := by
  funext b
  by_cases h1 : b = d
  · subst h1; rw [upd_same, upd_same]
  · rw [upd_ne h1, upd_ne h1]
    by_cases h2 : b = a
    · subst h2; rw [del_same, ha]
    · rw [del_ne h2, upd_ne h2, upd_ne h1, upd_ne h2]
/-- an own error class C, its name x, its one field f, its __init__ at fI -/
structure EC (K : PySem.W.Frag) (mg : Str → Option Value) (x f : Str) (C fI : Addr) : Prop where
  o : OexC K C
  xf : XfC K C
  ec : ExcC K C
  g : mg x = some (.ref C)
  noF : PySem.W.findIn K (.ref C) f = some none
  te : PySem.W.exmOne K (.ref C) (.ref C) = some true
  iC : PySem.W.findIn K (.ref C) "__init__" = some (some (.ref fI))
  tI : PySem.W.typeIn K (.ref fI) = some (.type "function")
def spInit (K : PySem.W.Frag) (C : Addr) (f : Str) : Sp := fun vs H Q _ => ∃ (a : Addr) (v : V), vs = [.ref a, v] ∧ H a = some (exo a C none) ∧ ∀ dx, H dx = none → dx ≠ a → Q .non (upd (upd H dx (exd dx [(f, v)])) a (exo a C (some dx)))
/-- the reading of raise C(e) -/
def tRaiseX (K : PySem.W.Frag) (C : Addr) (f : Str) (W : WX) (ta : TA) : TS := fun _ σ H => tMkO C (spInit K C f) [] ta σ H fun cls d H' => W cls d σ H'
section
variable {X : Cx} {C fI : Addr} {x f : Str} {fd : FuncData} {W : WX} {e : Expr} {ta : TA} {p pos pos2 : Pos} {k : Nat} {ps : List Str}
theorem ps_raiseX (T : EC X.K X.mg x f C fI) (F : FnOk X.prog X.w X.K X.mg X.base CX0 k fI fd ps (spInit X.K C f)) (hb : Binds X.K fd ps []) (hc : X.calm = true) (hr : Room (k + 1) X.A) (tk : Takes X W) (ha : PA X [e] ta) (hg : Gl X x := by rfl)
    (hdb : (x == ("__debug__" : Str)) = false := by decide) (he : starEach (e :: []) X.env = (false, eval e X.env) :: starEach [] X.env := by rfl) (hpl : (backTo pos (starEach [] X.env)).any (·.1) = false := by rfl) :
    PS X (.Raise (some (.Call (.Name x p) [e] [] pos)) none pos2) (tRaiseX X.K C f W ta) :=
  ps_raise hc tk (pmk_oex T.o T.iC T.tI F hr hb .nil (fun _ _ _ _ _ _ _ z => z.elim) hg T.g ha hdb he hpl)
end
section
variable {K : PySem.W.Frag} {σ : L2.St} {H : Hp} {C : Addr} {f : Str} {W : WX} {ta : TA} {D : Ends}
theorem rd_raiseX (h : ta σ H fun vs H1 => ∃ v, vs = [v] ∧ ∀ d, H1 d = none → W (.ref C) (some d) σ (upd H1 d (.xd [(f, v)]))) (hm : ∀ {q q' : List V → Hp → Prop}, (∀ vs H, q vs H → q' vs H) → ta σ H q → ta σ H q') : tRaiseX K C f W ta D σ H := by
  refine hm (fun vs H1 h => ?_) h
  obtain ⟨v, rfl, h⟩ := h
  refine ⟨by simp, fun a ha => ⟨a, v, rfl, upd_same, fun dx hdx hne => ⟨rfl, dx, [(f, v)], upd_same, ?_, ?_, ?_⟩⟩⟩
  · rw [upd_ne hne, upd_same]
  · rw [upd_ne hne] at hdx
    exact hdx
  · rw [mk_heap ha hne]
    rw [upd_ne hne] at hdx
    exact h dx hdx
theorem rd_raise1 {te : TE} (h : te σ H fun v H1 => ∀ d, H1 d = none → W (.ref C) (some d) σ (upd H1 d (.xd [(f, v)]))) (hm : ∀ {q q' : V → Hp → Prop}, (∀ v H, q v H → q' v H) → te σ H q → te σ H q') : tRaiseX K C f W (tCons te tNil) D σ H :=
  rd_raiseX (hm (fun v H1 z => ⟨v, rfl, z⟩) h) fun {q q'} hq hh => hm (fun v H1 z => hq _ _ z) hh
theorem rd_raiseV {i : Nat} {v : V} (e : σ[i]? = some (some v)) (h : ∀ d, H d = none → W (.ref C) (some d) σ (upd H d (.xd [(f, v)]))) : tRaiseX K C f W (tCons (tVar i) tNil) D σ H :=
  rd_raise1 ⟨v, e, h⟩ fun hq ⟨v, e, z⟩ => ⟨v, e, hq _ _ z⟩
theorem rd_raiseC {v : V} (h : ∀ d, H d = none → W (.ref C) (some d) σ (upd H d (.xd [(f, v)]))) : tRaiseX K C f W (tCons (tC v) tNil) D σ H := rd_raise1 (te := tC v) h fun hq z => hq _ _ z
end
/-- how an error leaves: of the class C, the field f holding v -/
def Err (C : Addr) (f : Str) (v : V) (H : Hp) (E : XK) : Prop := ∀ d H', Same H H' → H d = none → H' d = some (.xd [(f, v)]) → E (.ref C) (some d) H'
theorem Err.now {C : Addr} {f : Str} {v : V} {H : Hp} {E : XK} (h : Err C f v H E) : ∀ d, H d = none → E (.ref C) (some d) (upd H d (.xd [(f, v)])) := fun d n => h d _ (same_new n) n upd_same
theorem Err.same {C : Addr} {f : Str} {v : V} {H H' : Hp} {E : XK} (s : Same H H') (h : Err C f v H E) : Err C f v H' E := fun d H2 s2 n e => h d H2 (s.trans s2) (s.free n) e
/-- an own error class with its own __init__, ready to be made -/
def ErrK (P : Program) (w : World) (K : PySem.W.Frag) (mg : Str → Option Value) (base : Heap) (x f : Str) (C : Addr) : Prop :=
  ∃ (fI : Addr) (fd : FuncData), EC K mg x f C fI ∧ FnOk P w K mg base CX0 1 fI fd ["self", f] (spInit K C f) ∧ Binds K fd ["self", f] []
section
variable {P : Program} {w : World} {K : PySem.W.Frag} {mg : Str → Option Value} {base : Heap} {x f : Str} {C : Addr}
theorem ErrK.g (T : ErrK P w K mg base x f C) : mg x = some (.ref C) := let ⟨_, _, t, _⟩ := T; t.g
theorem ErrK.xf (T : ErrK P w K mg base x f C) : XfC K C := let ⟨_, _, t, _⟩ := T; t.xf
theorem ErrK.ec (T : ErrK P w K mg base x f C) : ExcC K C := let ⟨_, _, t, _⟩ := T; t.ec
theorem ErrK.noF (T : ErrK P w K mg base x f C) : PySem.W.findIn K (.ref C) f = some none := let ⟨_, _, t, _⟩ := T; t.noF
theorem ErrK.te (T : ErrK P w K mg base x f C) : PySem.W.exmOne K (.ref C) (.ref C) = some true := let ⟨_, _, t, _⟩ := T; t.te
end
section
variable {X : Cx} {C : Addr} {x f : Str} {W : WX} {e : Expr} {ta : TA} {p pos pos2 : Pos}
theorem ps_raiseE (T : ErrK X.prog X.w X.K X.mg X.base x f C) (hc : X.calm = true) (hr : Room 2 X.A) (tk : Takes X W) (ha : PA X [e] ta) (hg : Gl X x := by rfl)
    (hdb : (x == ("__debug__" : Str)) = false := by decide) (he : starEach (e :: []) X.env = (false, eval e X.env) :: starEach [] X.env := by rfl) (hpl : (backTo pos (starEach [] X.env)).any (·.1) = false := by rfl) :
    PS X (.Raise (some (.Call (.Name x p) [e] [] pos)) none pos2) (tRaiseX X.K C f W ta) := by
  obtain ⟨fI, fd, t, F, b⟩ := T
  exact ps_raiseX t F b hc hr tk ha hg hdb he hpl
end
theorem inI_yes {x : V} {lo hi : Int} (h : inI x lo hi = true) : ∃ i, x = .int i ∧ lo ≤ i ∧ i ≤ hi := by
  cases x with
  | int i => exact ⟨i, rfl, of_decide_eq_true h⟩
  | _ => exact Bool.noConfusion h
open LamX
def KpN (p : Addr) (H H' : Hp) : Prop := ∀ b o, b ≠ p → H b = some o → (∀ ps, o ≠ .tbl ps) → H' b = some o
section
variable {p q : Addr} {H H' H1 H2 : Hp} {o u : HO}
theorem KpN.refl : KpN p H H := fun _ _ _ h _ => h
theorem KpN.trans (a : KpN p H H1) (b : KpN p H1 H2) : KpN p H H2 := fun c o n h t => b c o n (a c o n h t) t
theorem KpN.ofK (k : Kp p H H') : KpN p H H' := fun a o n h _ => k a o n h
theorem KpN.of (s : Same H H') : KpN p H H' := fun a o _ h _ => s a o h
theorem KpN.ofN (s : ExtN H H') : KpN p H H' := fun a o _ h t => s a o h t
theorem KpN.new (h : H q = none) : KpN p H (upd H q o) := .of (same_new h)
theorem KpN.at : KpN p H (upd H p o) := .ofK Kp.at
theorem lst_ntbl {xs : List V} : ∀ ps, HO.lst xs ≠ .tbl ps := fun _ z => nomatch z
theorem tup_ntbl {xs : List V} : ∀ ps, HO.tup xs ≠ .tbl ps := fun _ z => nomatch z
theorem look_extL {a : Addr} {xs : List V} (s : ExtN H H') (h : H a = some (.lst xs)) : H' a = some (.lst xs) := s _ _ h lst_ntbl
theorem look_extT {a : Addr} {xs : List V} (s : ExtN H H') (h : H a = some (.tup xs)) : H' a = some (.tup xs) := s _ _ h tup_ntbl
theorem Pool.ext (s : ExtN H H') (h : Pool H p) : Pool H' p := by
  obtain ⟨x, y, e, r⟩ := h
  exact ⟨x, y, s _ _ e lst_ntbl, r⟩
theorem Tabs.same {T : List (Addr × Str)} (s : Same H H') (t : Tabs T H) : Tabs T H' := t.ext fun b o h => s b o h
theorem Tabs.new {T : List (Addr × Str)} (n : H q = none) (t : Tabs T H) : Tabs T (upd H q o) := t.ext fun b o h => same_new n b o h
theorem codeO_lst {c : Addr} {q : Str} {xs : List V} : CodeO c q ≠ .lst xs := fun z => by
  unfold CodeO at z
  cases z
theorem Tabs.kp {T : List (Addr × Str)} (hp : Pool H p) (k : Kp p H H') (t : Tabs T H) : Tabs T H' := fun e he => by
  obtain ⟨x, y, hl, _⟩ := hp
  obtain ⟨ps, h1, h2, h3⟩ := t e he
  refine ⟨ps, k _ _ (fun z => by rw [z, hl] at h1; cases h1) h1, h2, fun pos cv hc => ?_⟩
  obtain ⟨c, e1, e2⟩ := h3 pos cv hc
  exact ⟨c, e1, k _ _ (fun z => by rw [z, hl] at e2; exact codeO_lst (Option.some.inj e2).symm) e2⟩
end
def DV (p : Addr) (H : Hp) (v : V) : Prop := scalarV v = true ∨ ∃ a xs, v = .ref a ∧ a ≠ p ∧ (H a = some (.lst xs) ∨ H a = some (.tup xs)) ∧ ∀ x ∈ xs, scalarV x = true
section
variable {p : Addr} {H H' : Hp} {v : V} {K : PySem.W.Frag}
theorem DV.ty (h : DV p H v) : TyV H v := by
  rcases h with h | ⟨a, xs, rfl, _, h | h, _⟩
  · cases v <;> first | exact True.intro | exact Bool.noConfusion h
  · exact .inl ⟨xs, h⟩
  · exact .inr ⟨xs, h⟩
theorem DV.sm (h : DV p H v) : SmV K H 1 v v := by
  rcases h with h | ⟨a, xs, rfl, _, h | h, s⟩
  · exact .inl ⟨rfl, h⟩
  · exact .inr (.inl ⟨a, a, xs, xs, rfl, rfl, .of h, .of h, rfl, fun i x y e1 e2 => by
      rw [e1] at e2
      exact ⟨Option.some.inj e2, s x (List.mem_of_getElem? e1)⟩⟩)
  · exact .inr (.inr ⟨a, a, xs, xs, rfl, rfl, .of h, .of h, rfl, fun i x y e1 e2 => by
      rw [e1] at e2
      exact ⟨Option.some.inj e2, s x (List.mem_of_getElem? e1)⟩⟩)
theorem DV.sc (h : scalarV v = true) : DV p H v := .inl h
theorem DV.lst {a : Addr} {xs : List V} (n : a ≠ p) (h : H a = some (.lst xs)) (s : ∀ x ∈ xs, scalarV x = true) : DV p H (.ref a) := .inr ⟨a, xs, rfl, n, .inl h, s⟩
theorem DV.tup {a : Addr} {xs : List V} (n : a ≠ p) (h : H a = some (.tup xs)) (s : ∀ x ∈ xs, scalarV x = true) : DV p H (.ref a) := .inr ⟨a, xs, rfl, n, .inr h, s⟩
end
/-- what the error that told caught becomes: a list of flags and of its field -/
def ErL (C : Addr) (f : Str) (L : V → List V) (Q : VK) : XK := fun cls d H' => cls = .ref C ∧ ∃ dd v, d = some dd ∧ H' dd = some (.xd [(f, v)]) ∧ ∀ p H'', Same H' H'' → H' p = none → H'' p = some (.lst (L v)) → Q (.ref p) H''
/-- try: a() / except C as e: return [.., e.f] / return None -/
def TTnone (C : Addr) (f : Str) (L : V → List V) : (XK → Hp → VK → Prop) → Hp → VK → Prop := fun tl H Q => tl (ErL C f L Q) H (fun _ H' => Q .non H')
section
variable {K : PySem.W.Frag}
theorem kit_ref {C J : Addr} {b : Bool} (s : PySem.W.subIn K (.ref C) (.ref J) = some b) (n : C ≠ J) (i : PySem.W.isClsIn K J = true) (t : PySem.W.typeIn K (.ref J) = some (.type "type")) : PySem.W.kitOne K (.ref C) (.ref J) = some b := by
  unfold PySem.W.kitOne
  rw [if_neg (by simpa using n)]
  have i' : (PySem.W.clsIn K J).isSome = true := i
  show (if ((PySem.W.clsIn K J).isSome && PySem.W.typeIn K (.ref J) == some (.type "type")) = true then PySem.W.subIn K (.ref C) (.ref J) else none) = some b
  rw [i', t]
  exact s
end
/-- the facts of an own error class, gathered -/
theorem ec_mk {K : PySem.W.Frag} {mg : Str → Option Value} {x f : Str} {C fI N : Addr} {nm q : Str} {bs bm : List Value} {sn : List Str} {sub : List Value} {ab : Bool} {col : Option Bool} {dd : Option Addr} {m0 m1 m2 m3 m5 : Option Value}
    (g : mg x = some (.ref C)) (l : K.lookup C = some (PySem.excClassObj nm q C N bs bm true sn sub ab col dd m0 m1 m2 m3 m5 "ValueError.__new__")) (hb : PySem.HandSPX.refsVE bm = true)
    (sa : PySem.W.findIn K (.ref C) "__setattr__" = some (some (.builtin "object.__setattr__"))) (ga : PySem.W.findIn K (.ref C) "__getattribute__" = some (some (.builtin "BaseException.__getattribute__")))
    (gg : PySem.W.findIn K (.ref C) "__getattr__" = some none) (nf : PySem.W.findIn K (.ref C) f = some none) (ic : PySem.W.findIn K (.ref C) "__init__" = some (some (.ref fI))) (ti : PySem.W.typeIn K (.ref fI) = some (.type "function"))
    (ca : PySem.W.findIn K (.ref C) "__class__" = some (some (.builtin "object.__class__"))) (cn : PySem.W.specialIn K (.builtin "object.__class__") "__get__" = some (some (.builtin "getset_descriptor.__get__")))
    (ct : PySem.W.takesIn K (.builtin "object.__class__") = some true) (cm : PySem.W.mroIn K C (.type "object") = some true) (kp : PySem.W.keepIn K (.ref C) = true) (sb : PySem.W.subIn K (.ref C) (.type "BaseException") = some true)
    (tc : PySem.W.typeIn K (.ref C) = some (.type "type")) (hd : PySem.W.hasDictIn K C = true) (ss : PySem.W.subIn K (.ref C) (.ref C) = some true) : EC K mg x f C fI :=
  { o := ⟨⟨nm, q, N, bs, bm, sn, sub, ab, col, dd, m0, m1, m2, m3, m5, l, hb⟩, sa, sb, tc, kp⟩, xf := ⟨ga, gg, sb, hd⟩, ec := ⟨ga, gg, sb, hd, ca, cn, ct, cm⟩, g := g, noF := nf, te := PySem.W.exm_ref sb hd tc ss, iC := ic, tI := ti }
section
variable {X : Cx} {K : PySem.W.Frag} {σ : L2.St} {H : Hp} {Q : VK} {D : Ends} {n : L2.St → Hp → Prop} {r : VK} {b c : L2.St → Hp → Prop}
theorem rd_isX {C a dd : Addr} {cls : Value} {d : Option Addr} {c' : V} {cv : Value} {bb : Bool} {fs : List (Str × V)} (e1 : cls = .ref C) (e2 : d = some dd) (e3 : H dd = some (.xd fs)) (e4 : ∀ u, RelV c' u → u = cv) (k : PySem.W.kitOne K (.ref C) cv = some bb) (h : Q (.bl bb) H) : rIsX K C a cls d [.ref a, c'] H Q := ⟨c', cv, bb, dd, fs, rfl, e1, e2, e3, e4, k, h⟩
theorem rd_xf {C a : Addr} {cls : Value} {d : Option Addr} {f : Str} {te : TE} (h : te σ H fun x H1 => x = .ref a ∧ cls = .ref C ∧ ∃ (dd : Addr) (fs : List (Str × V)) (v : V), d = some dd ∧ H1 dd = some (.xd fs) ∧ fs.lookup f = some v ∧ Q v H1) : tXf a cls d C f te σ H Q := h
theorem rd_lam {T : List (Addr × Str)} {TT : (XK → Hp → VK → Prop) → Hp → VK → Prop} {t : XK → TE} (h1 : Tabs T H) (h2 : ∀ H1, ExtN H H1 → Tabs T H1 → TT (fun E H' Q' => t E σ H' Q') H1 Q) : tLam T TT t σ H Q := ⟨h1, h2⟩
theorem rd_told {C : Addr} {f : Str} {L : V → List V} {tl : XK → Hp → VK → Prop} (h : tl (ErL C f L Q) H (fun _ H' => Q .non H')) : TTnone C f L tl H Q := h
theorem rd_catG {a b : Addr} {xs ys : List V} (h1 : H a = some (.lst xs)) (h2 : H b = some (.lst ys)) (n : xs.length + ys.length ≤ 1000) (q : ∀ p, H p = none → Q (.ref p) (upd H p (.lst (xs ++ ys)))) : rCat (.ref a) (.ref b) H Q :=
  ⟨a, b, _, _, rfl, rfl, h1, h2, Nat.le_of_lt (small1000 n), fun p hp => q p hp⟩
end
end Z
namespace Z
open PySem PySem.Spec PyProof.Rows L2
def geZ : V → Bool
  | .int i => decide (0 ≤ i)
  | _ => false
def tt (u v : V) : Bool := isI u && (geZ u && inI v 1 15)
inductive TR (H : Hp) : V → Bool → Prop where
  | flat {x : V} (h : scalarV x = true) : TR H x false
  | lst {a : Addr} {xs : List V} (h : H a = some (.lst xs)) : TR H (.ref a) false
  | tupn {a : Addr} {xs : List V} (h : H a = some (.tup xs)) (n : xs.length ≠ 2) : TR H (.ref a) false
  | tup2 {a : Addr} {u v : V} (h : H a = some (.tup [u, v])) (hu : TyV H u) (hv : TyV H v) : TR H (.ref a) (tt u v)
inductive TSR (H : Hp) : V → Bool → Prop where
  | flat {x : V} (h : scalarV x = true) : TSR H x false
  | lst {a : Addr} {xs : List V} (h : H a = some (.lst xs)) : TSR H (.ref a) false
  | tupn {a : Addr} {xs : List V} (h : H a = some (.tup xs)) (n : xs.length ≠ 2) : TSR H (.ref a) false
  | tup2 {a : Addr} {u v : V} {b1 b2 : Bool} (h : H a = some (.tup [u, v])) (hu : TR H u b1) (hv : TR H v b2) : TSR H (.ref a) (b1 && b2)
def spTbl : Sp := fun vs H Q _ => ∃ x b, vs = [x] ∧ TR H x b ∧ Q (.bl b) H
theorem use_tbl {x : V} {b : Bool} {H : Hp} {Q : VK} {E : XK} (h : TR H x b) (q : Q (.bl b) H) : spTbl ([x] ++ []) H Q E := ⟨x, b, rfl, h, q⟩
def spTbls : Sp := fun vs H Q _ => ∃ x b, vs = [x] ∧ TSR H x b ∧ Q (.bl b) H
theorem use_tbls {x : V} {b : Bool} {H : Hp} {Q : VK} {E : XK} (h : TSR H x b) (q : Q (.bl b) H) : spTbls ([x] ++ []) H Q E := ⟨x, b, rfl, h, q⟩
theorem tt_no1 {u v : V} (h : isI u = false) : tt u v = false := by unfold tt; rw [h]; rfl
theorem tt_int {t : Int} {v : V} : tt (.int t) v = (decide (0 ≤ t) && inI v 1 15) := rfl
/-- the parameter of a table -/
def par (t c : Int) : Nat := Builtin.Int.intBits ((if 1 > (t + c - 1) / c then 1 else (t + c - 1) / c) - 1)
theorem par_spec {t c : Int} (ht : 0 ≤ t) (hc : 1 ≤ c) : (∀ j : Nat, j < par t c → c * 2 ^ j < t) ∧ t ≤ c * 2 ^ par t c := by
  have d1 := Int.mul_ediv_self_le (x := t + c - 1) (k := c) (by omega)
  have d2 : t + c - 1 < c * ((t + c - 1) / c) + c := Int.lt_mul_ediv_self_add (by omega)
  unfold par
  generalize (t + c - 1) / c = q at d1 d2 ⊢
  have key : ∃ m : Int, (if 1 > q then 1 else q) - 1 = m ∧ 0 ≤ m ∧ t ≤ c * (m + 1) ∧ (0 < m → c * m < t) := by
    by_cases h : 1 > q
    · rw [if_pos h]
      refine ⟨0, rfl, Int.le_refl _, ?_, fun z => absurd z (by decide)⟩
      have : c * q ≤ 0 := by
        have := Int.mul_le_mul_of_nonneg_left (show q ≤ 0 by omega) (show 0 ≤ c by omega)
        rw [Int.mul_zero] at this
        exact this
      omega
    · rw [if_neg h]
      refine ⟨q - 1, rfl, by omega, ?_, fun _ => ?_⟩
      · rw [show q - 1 + 1 = q by omega]; omega
      · rw [Int.mul_sub, Int.mul_one]; omega
  obtain ⟨m, e, m0, m1, m2⟩ := key
  rw [e]
  obtain ⟨n, rfl⟩ : ∃ n : Nat, m = (n : Int) := ⟨m.toNat, by omega⟩
  refine ⟨fun j hj => ?_, ?_⟩
  · have h1 : ¬ (Builtin.Int.intBits (n : Int) ≤ j) := by omega
    rw [PySem.intBits_le_iff, Int.natAbs_natCast] at h1
    have h2 : (2 ^ j : Nat) ≤ n := by omega
    have h3 : (0 : Nat) < 2 ^ j := Nat.two_pow_pos j
    have h4 : ((2 ^ j : Nat) : Int) ≤ (n : Int) := by exact_mod_cast h2
    have h5 := Int.mul_le_mul_of_nonneg_left h4 (show 0 ≤ c by omega)
    have h6 := m2 (by omega)
    have h7 : ((2 : Int) ^ j) = ((2 ^ j : Nat) : Int) := by norm_cast
    rw [h7]
    omega
  · have h1 := PySem.intBits_le_iff.mp (Nat.le_refl (Builtin.Int.intBits (n : Int)))
    rw [Int.natAbs_natCast] at h1
    generalize Builtin.Int.intBits (n : Int) = k at h1 ⊢
    have h4 : ((n : Int) + 1) ≤ ((2 ^ k : Nat) : Int) := by exact_mod_cast h1
    have h5 := Int.mul_le_mul_of_nonneg_left h4 (show 0 ≤ c by omega)
    have h7 : ((2 : Int) ^ k) = ((2 ^ k : Nat) : Int) := by norm_cast
    rw [h7]
    omega
theorem par_le {t c : Int} (ht : 0 ≤ t) (hc : 1 ≤ c) (hb : t < 10 ^ 60) (hc2 : c ≤ 15) : par t c ≤ 300 := by
  have d1 := Int.mul_ediv_self_le (x := t + c - 1) (k := c) (by omega)
  unfold par
  rw [PySem.intBits_le_iff]
  have e : (10 : Int) ^ 60 + 20 < 2 ^ 300 := by decide
  have q0 : 0 ≤ (t + c - 1) / c := Int.ediv_nonneg (by omega) (by omega)
  have q1 : (t + c - 1) / c ≤ t + c - 1 := Int.ediv_le_self _ (by omega)
  generalize (t + c - 1) / c = q at q0 q1 ⊢
  have e2 : ((2 ^ 300 : Nat) : Int) = 2 ^ 300 := by norm_cast
  split <;> omega
/-- drawn rows: drawn values, their numbers not too long -/
def smallV : V → Prop
  | .int i => i.natAbs < 10 ^ 58
  | _ => True
def RV (p : Addr) (H : Hp) (v : V) : Prop := scalarV v = true ∨ ∃ a xs, v = .ref a ∧ a ≠ p ∧ (H a = some (.lst xs) ∨ H a = some (.tup xs)) ∧ (∀ x ∈ xs, scalarV x = true) ∧ ∀ x ∈ xs, smallV x
section
variable {p : Addr} {H H' : Hp} {v : V}
theorem RV.sc (h : scalarV v = true) : RV p H v := .inl h
theorem RV.lst {a : Addr} {xs : List V} (n : a ≠ p) (h : H a = some (.lst xs)) (s : ∀ x ∈ xs, scalarV x = true) (t : ∀ x ∈ xs, smallV x) : RV p H (.ref a) := .inr ⟨a, xs, rfl, n, .inl h, s, t⟩
theorem RV.tup {a : Addr} {xs : List V} (n : a ≠ p) (h : H a = some (.tup xs)) (s : ∀ x ∈ xs, scalarV x = true) (t : ∀ x ∈ xs, smallV x) : RV p H (.ref a) := .inr ⟨a, xs, rfl, n, .inr h, s, t⟩
theorem flat_ty {x : V} (h : scalarV x = true) : TyV H x := by cases x <;> first | exact True.intro | exact Bool.noConfusion h
/-- what a drawn row is as a table: no table, or two numbers in their limits -/
theorem RV.tr (h : RV p H v) : ∃ b, TR H v b ∧ (b = true → ∃ a t c, v = .ref a ∧ H a = some (.tup [.int t, .int c]) ∧ 0 ≤ t ∧ t < 10 ^ 60 ∧ 1 ≤ c ∧ c ≤ 15) := by
  rcases h with h | ⟨a, xs, rfl, n, h | h, s, t⟩
  · exact ⟨false, .flat h, fun z => Bool.noConfusion z⟩
  · exact ⟨false, .lst h, fun z => Bool.noConfusion z⟩
  · by_cases hl : xs.length = 2
    · obtain ⟨u, w, rfl⟩ := len2 hl
      have su := s u (by simp)
      have sw := s w (by simp)
      refine ⟨_, .tup2 h (flat_ty su) (flat_ty sw), fun z => ?_⟩
      unfold tt at z
      simp only [Bool.and_eq_true] at z
      obtain ⟨z1, z2, z3⟩ := z
      obtain ⟨i, rfl⟩ := isI_yes z1
      obtain ⟨j, rfl, j1, j2⟩ := inI_yes z3
      have hi : i.natAbs < 10 ^ 58 := t (.int i) (by simp)
      have h0 : 0 ≤ i := of_decide_eq_true z2
      exact ⟨a, i, j, rfl, h, h0, by omega, j1, j2⟩
    · exact ⟨false, .tupn h hl, fun z => Bool.noConfusion z⟩
theorem RV.ne {a : Addr} (h : RV p H (.ref a)) : a ≠ p := by
  rcases h with h | ⟨b, xs, e, n, _⟩
  · exact Bool.noConfusion h
  · cases e
    exact n
theorem RV.tsr (h : RV p H v) : TSR H v false := by
  rcases h with h | ⟨a, xs, rfl, n, h | h, s, t⟩
  · exact .flat h
  · exact .lst h
  · by_cases hl : xs.length = 2
    · obtain ⟨u, w, rfl⟩ := len2 hl
      exact .tup2 (b1 := false) (b2 := false) h (.flat (s u (by simp))) (.flat (s w (by simp)))
    · exact .tupn h hl
end
theorem and_cut {Q : VK} {H : Hp} {b1 b2 : Bool} {T : Prop} (hT : Q (.bl b2) H → T) (hq : Q (.bl (b1 && b2)) H) : ∃ c, V.bl b1 = .bl c ∧ if c = true then T else Q (.bl false) H := by
  cases b1
  · exact ⟨false, rfl, iteF hq⟩
  · exact ⟨true, rfl, iteT (hT hq)⟩
theorem tupV_K {K : PySem.W.Frag} {a : Addr} {od : Option Addr} {its : Array Value} {n : Nat} {sl : Array (Option Value)} {xs : List V} (l : K.lookup a = some ⟨.type "tuple", od, .seq its n, sl⟩) (hs : its.size ≤ sizeLine) (hv : Vals xs its.toList) : ∀ H, TupV K H a xs := fun H => ⟨seqT_K l hs hv H, .kTuple l rfl⟩
def spRow : Sp := fun vs H Q _ => ∃ p, vs = [.ref p] ∧ Pool H p ∧ ∀ v H', RV p H' v → Pool H' p → Kp p H H' → Q v H'
theorem use_row {p : Addr} {H : Hp} {Q : VK} {E : XK} (h : Pool H p) (q : ∀ v H', RV p H' v → Pool H' p → Kp p H H' → Q v H') : spRow ([.ref p] ++ []) H Q E := ⟨p, rfl, h, q⟩
section
variable {K : PySem.W.Frag} {σ : L2.St} {H : Hp} {Q : VK}
theorem rd_bits {te : TE} (h : te σ H fun x H1 => ∃ i, x = .int i ∧ Q (.int (Builtin.Int.intBits i : Nat)) H1) : tBits te σ H Q := h
end
end Z
namespace Z
open PySem PySem.Spec PyProof.Rows L2
/-- joints: place, width, shape -/
abbrev Jo := Nat × Nat × Nat
/-- the steps of a folding: shape, left, right -/
def prs1 (j : Jo) (i : Nat) : List (Nat × Nat × Nat) := (List.range i).map fun i => (j.2.2, j.1 - 1 - i, j.1 + i)
def prs (js : List Jo) : List (Nat × Nat × Nat) := js.flatMap fun j => prs1 j j.2.1
def stp (f : Int → Int → Int → Int × Int) (xs : List Int) (t : Nat × Nat × Nat) : List Int := (xs.set t.2.1 (f t.1 (xs.getD t.2.1 0) (xs.getD t.2.2 0)).1).set t.2.2 (f t.1 (xs.getD t.2.1 0) (xs.getD t.2.2 0)).2
def turnL (f : Int → Int → Int → Int × Int) (xs : List Int) (js : List Jo) : List Int := (prs js).foldl (stp f) xs
/-- the joints have room: behind the place b of a joint of the width wb, in a list of n values -/
def Rm (n : Nat) : Nat → Nat → List Jo → Prop
  | _, _, [] => True
  | b, wb, j :: r => b < j.1 ∧ j.1 < n ∧ b + wb + j.2.1 ≤ j.1 ∧ j.1 + j.2.1 ≤ n ∧ j.2.1 ≤ 8 ∧ j.2.2 ≤ 3 ∧ (j.2.1 = 0 → j.2.2 = 0) ∧ Rm n j.1 j.2.1 r
/-- triples apart -/
def Ap (n : Nat) (ts : List (Nat × Nat × Nat)) : Prop := (∀ t ∈ ts, t.2.1 < n ∧ t.2.2 < n ∧ t.2.1 ≠ t.2.2) ∧ ts.Pairwise fun t u => t.2.1 ≠ u.2.1 ∧ t.2.1 ≠ u.2.2 ∧ t.2.2 ≠ u.2.1 ∧ t.2.2 ≠ u.2.2
theorem stp_length {f : Int → Int → Int → Int × Int} {xs : List Int} {t : Nat × Nat × Nat} : (stp f xs t).length = xs.length := by simp [stp]
theorem foldl_length {f : Int → Int → Int → Int × Int} : ∀ (ts : List (Nat × Nat × Nat)) (xs : List Int), (ts.foldl (stp f) xs).length = xs.length
  | [], _ => rfl
  | t :: r, xs => by rw [List.foldl_cons, foldl_length r, stp_length]
theorem turnL_length {f : Int → Int → Int → Int × Int} {xs : List Int} {js : List Jo} : (turnL f xs js).length = xs.length := foldl_length _ _
theorem stp_out {f : Int → Int → Int → Int × Int} {xs : List Int} {t : Nat × Nat × Nat} {k : Nat} (h1 : t.2.1 ≠ k) (h2 : t.2.2 ≠ k) : (stp f xs t)[k]? = xs[k]? := by
  unfold stp
  rw [List.getElem?_set_ne h2, List.getElem?_set_ne h1]
theorem get_out {f : Int → Int → Int → Int × Int} : ∀ (ts : List (Nat × Nat × Nat)) (xs : List Int) (k : Nat), (∀ t ∈ ts, t.2.1 ≠ k ∧ t.2.2 ≠ k) → (ts.foldl (stp f) xs)[k]? = xs[k]?
  | [], _, _, _ => rfl
  | t :: r, xs, k, h => by
    rw [List.foldl_cons, get_out r _ k fun u hu => h u (List.mem_cons_of_mem _ hu), stp_out (h t List.mem_cons_self).1 (h t List.mem_cons_self).2]
theorem getD_of {xs ys : List Int} {k : Nat} (h : xs[k]? = ys[k]?) : xs.getD k 0 = ys.getD k 0 := by
  rw [List.getD_eq_getElem?_getD, List.getD_eq_getElem?_getD, h]
theorem get_in {f : Int → Int → Int → Int × Int} {n : Nat} : ∀ (ts : List (Nat × Nat × Nat)) (xs : List Int), xs.length = n → Ap n ts → ∀ t ∈ ts,
    (ts.foldl (stp f) xs)[t.2.1]? = some (f t.1 (xs.getD t.2.1 0) (xs.getD t.2.2 0)).1 ∧ (ts.foldl (stp f) xs)[t.2.2]? = some (f t.1 (xs.getD t.2.1 0) (xs.getD t.2.2 0)).2
  | [], _, _, _, t, h => absurd h List.not_mem_nil
  | u :: r, xs, hn, ⟨h1, h2⟩, t, ht => by
    obtain ⟨h3, h4⟩ := List.pairwise_cons.mp h2
    have hu := h1 u List.mem_cons_self
    rw [List.foldl_cons]
    rcases List.mem_cons.mp ht with rfl | ht
    · rw [get_out r _ _ fun v hv => ⟨(h3 v hv).1.symm, (h3 v hv).2.1.symm⟩, get_out r _ _ fun v hv => ⟨(h3 v hv).2.2.1.symm, (h3 v hv).2.2.2.symm⟩]
      unfold stp
      refine ⟨?_, ?_⟩
      · rw [List.getElem?_set_ne (Ne.symm hu.2.2), List.getElem?_set_self (by omega)]
      · rw [List.getElem?_set_self (by rw [List.length_set]; omega)]
    · have ih := get_in (f := f) r (stp f xs u) (by rw [stp_length, hn]) ⟨fun v hv => h1 v (List.mem_cons_of_mem _ hv), h4⟩ t ht
      have a := h3 t ht
      rw [getD_of (stp_out (f := f) (xs := xs) a.1 a.2.2.1), getD_of (stp_out (f := f) (xs := xs) a.2.1 a.2.2.2)] at ih
      exact ih
theorem mem_prs1 {j : Jo} {i : Nat} {t : Nat × Nat × Nat} : t ∈ prs1 j i ↔ ∃ k, k < i ∧ t = (j.2.2, j.1 - 1 - k, j.1 + k) := by
  simp only [prs1, List.mem_map, List.mem_range]
  exact ⟨fun ⟨k, h, e⟩ => ⟨k, h, e.symm⟩, fun ⟨k, h, e⟩ => ⟨k, h, e.symm⟩⟩
/-- each step lies within its joint's room -/
theorem rm_mem {n : Nat} : ∀ (js : List Jo) (b wb : Nat), Rm n b wb js → ∀ t ∈ prs js, b + wb ≤ t.2.1 ∧ t.2.1 < t.2.2 ∧ t.2.2 < n
  | [], _, _, _, t, h => absurd h List.not_mem_nil
  | j :: r, b, wb, ⟨a1, a2, a3, a4, a5, a6, a7, a8⟩, t, h => by
    have e : prs (j :: r) = prs1 j j.2.1 ++ prs r := by simp [prs]
    rw [e] at h
    rcases List.mem_append.mp h with h | h
    · obtain ⟨k, hk, rfl⟩ := mem_prs1.mp h
      dsimp only
      omega
    · have := rm_mem r j.1 j.2.1 a8 t h
      omega
theorem rm_ap {n : Nat} : ∀ (js : List Jo) (b wb : Nat), Rm n b wb js → Ap n (prs js)
  | [], _, _, _ => ⟨fun t h => absurd h List.not_mem_nil, List.Pairwise.nil⟩
  | j :: r, b, wb, h => by
    have hm := rm_mem (j :: r) b wb h
    refine ⟨fun t ht => ?_, ?_⟩
    · have := hm t ht
      omega
    · obtain ⟨a1, a2, a3, a4, a5, a6, a7, a8⟩ := h
      have e : prs (j :: r) = prs1 j j.2.1 ++ prs r := by simp [prs]
      rw [e]
      refine List.pairwise_append.mpr ⟨?_, (rm_ap r j.1 j.2.1 a8).2, fun t ht u hu => ?_⟩
      · unfold prs1
        refine List.pairwise_map.mpr (List.Pairwise.imp_of_mem (fun {x y} hx hy hxy => ?_) (List.nodup_range))
        have hx' := List.mem_range.mp hx
        have hy' := List.mem_range.mp hy
        dsimp only
        omega
      · obtain ⟨k, hk, rfl⟩ := mem_prs1.mp ht
        have := rm_mem r j.1 j.2.1 a8 u hu
        dsimp only
        omega
/-- the place that is folded with a place -/
def prt : List Jo → Nat → Option Nat
  | [], _ => none
  | j :: r, k => if j.1 ≤ k + j.2.1 ∧ k < j.1 + j.2.1 then some (2 * j.1 - 1 - k) else prt r k
theorem prt_none : ∀ (js : List Jo) (k : Nat), prt js k = none → (∀ j ∈ js, j.2.1 ≤ j.1) → ∀ t ∈ prs js, t.2.1 ≠ k ∧ t.2.2 ≠ k
  | [], _, _, _, t, h => absurd h List.not_mem_nil
  | j :: r, k, hp, hw, t, h => by
    have e : prs (j :: r) = prs1 j j.2.1 ++ prs r := by simp [prs]
    rw [e] at h
    unfold prt at hp
    split at hp
    · cases hp
    · rename_i c
      rcases List.mem_append.mp h with h | h
      · obtain ⟨i, hi, rfl⟩ := mem_prs1.mp h
        have := hw j List.mem_cons_self
        dsimp only
        omega
      · exact prt_none r k hp (fun j hj => hw j (List.mem_cons_of_mem _ hj)) t h
theorem prt_some : ∀ (js : List Jo) (k m : Nat), prt js k = some m → (∀ j ∈ js, j.2.1 ≤ j.1 ∧ 0 < j.1) → ∃ t ∈ prs js, (t.2.1 = k ∧ t.2.2 = m) ∨ (t.2.2 = k ∧ t.2.1 = m)
  | [], _, _, h, _ => by cases h
  | j :: r, k, m, hp, hw => by
    have e : prs (j :: r) = prs1 j j.2.1 ++ prs r := by simp [prs]
    have hj := hw j List.mem_cons_self
    unfold prt at hp
    split at hp
    · rename_i c
      have em := Option.some.inj hp
      by_cases c2 : k < j.1
      · refine ⟨(j.2.2, j.1 - 1 - (j.1 - 1 - k), j.1 + (j.1 - 1 - k)), by rw [e]; exact List.mem_append_left _ (mem_prs1.mpr ⟨j.1 - 1 - k, by omega, rfl⟩), .inl ⟨?_, ?_⟩⟩
        · dsimp only; omega
        · dsimp only; omega
      · refine ⟨(j.2.2, j.1 - 1 - (k - j.1), j.1 + (k - j.1)), by rw [e]; exact List.mem_append_left _ (mem_prs1.mpr ⟨k - j.1, by omega, rfl⟩), .inr ⟨?_, ?_⟩⟩
        · dsimp only; omega
        · dsimp only; omega
    · obtain ⟨t, ht, q⟩ := prt_some r k m hp fun j hj => hw j (List.mem_cons_of_mem _ hj)
      exact ⟨t, by rw [e]; exact List.mem_append_right _ ht, q⟩
theorem rm_all {n : Nat} : ∀ (js : List Jo) (b wb : Nat), Rm n b wb js → ∀ j ∈ js, j.2.1 ≤ j.1 ∧ 0 < j.1
  | [], _, _, _, j, h => absurd h List.not_mem_nil
  | k :: r, b, wb, ⟨a1, a2, a3, a4, a5, a6, a7, a8⟩, j, h => by
    rcases List.mem_cons.mp h with rfl | h
    · omega
    · exact rm_all r k.1 k.2.1 a8 j h
theorem turn_none {f : Int → Int → Int → Int × Int} {n k : Nat} {xs : List Int} {js : List Jo} (h : Rm n 0 0 js) (hp : prt js k = none) : (turnL f xs js)[k]? = xs[k]? :=
  get_out _ _ _ (prt_none js k hp fun j hj => (rm_all js 0 0 h j hj).1)
def JsAt (H : Hp) (vs : List V) (js : List Jo) : Prop := vs.length = js.length ∧ ∀ (i : Nat) (v : V), vs[i]? = some v → ∃ (j : Jo) (a q : Addr), js[i]? = some j ∧ v = .ref a ∧ H a = some (.tup [.int (j.1 : Nat), .ref q]) ∧ H q = some (.tup [.int (j.2.1 : Nat), .int (j.2.2 : Nat)])
theorem JsAt.kp {p : Addr} {H H' : Hp} {vs : List V} {js : List Jo} (k : Kp p H H') (hp : ∃ xs, H p = some (.lst xs)) (h : JsAt H vs js) : JsAt H' vs js := ⟨h.1, fun i v e => by
  obtain ⟨j, a, q, e1, e2, e3, e4⟩ := h.2 i v e
  obtain ⟨xs, hp⟩ := hp
  exact ⟨j, a, q, e1, e2, k _ _ (fun z => by rw [z, hp] at e3; cases e3) e3, k _ _ (fun z => by rw [z, hp] at e4; cases e4) e4⟩⟩
theorem JsAt.same {H H' : Hp} {vs : List V} {js : List Jo} (k : Same H H') (h : JsAt H vs js) : JsAt H' vs js := ⟨h.1, fun i v e => by
  obtain ⟨j, a, q, e1, e2, e3, e4⟩ := h.2 i v e
  exact ⟨j, a, q, e1, e2, k _ _ e3, k _ _ e4⟩⟩
theorem jt_ok {j : Jo} (h1 : j.2.1 ≤ 8) (h2 : j.2.2 ≤ 3) (h3 : j.2.1 = 0 → j.2.2 = 0) : jt (.int (j.2.1 : Nat)) (.int (j.2.2 : Nat)) = true := by
  show (decide _ && (decide _ && (decide _ || decide _))) = true
  rw [decide_eq_true (by omega), decide_eq_true (by omega)]
  by_cases h : j.2.1 = 0
  · rw [h3 h, h]; rfl
  · rw [decide_eq_true (show (0 : Int) < (j.2.1 : Nat) by omega)]; rfl
def spSound : Sp := fun vs H Q _ => ∃ (a : Addr) (ns : List Int), vs = [.ref a] ∧ H a = some (.lst (ns.map V.int)) ∧ ∀ H', Same H H' → Q .non H'
theorem use_sound {a : Addr} {ns : List Int} {H : Hp} {Q : VK} {E : XK} (h : H a = some (.lst (ns.map V.int))) (q : ∀ H', Same H H' → Q .non H') : spSound ([.ref a] ++ []) H Q E := ⟨a, ns, rfl, h, q⟩
def spFolds (f : Int → Int → Int → Int × Int) : Sp := fun vs H Q _ => ∃ (a b : Addr) (xs : List Int) (refs : List V) (js : List Jo), vs = [.ref a, .ref b] ∧ H a = some (.lst (xs.map V.int)) ∧ H b = some (.lst refs) ∧ JsAt H refs js ∧ Rm xs.length 0 0 js ∧ xs.length ≤ 10000 ∧
  ∀ p H', H p = none → Same H H' → H' p = some (.lst ((turnL f xs js).map V.int)) → Q (.ref p) H'
theorem use_folds {f : Int → Int → Int → Int × Int} {a b : Addr} {xs : List Int} {refs : List V} {js : List Jo} {H : Hp} {Q : VK} {E : XK} (h1 : H a = some (.lst (xs.map V.int))) (h2 : H b = some (.lst refs)) (h3 : JsAt H refs js) (h4 : Rm xs.length 0 0 js) (h5 : xs.length ≤ 10000)
    (q : ∀ p H', H p = none → Same H H' → H' p = some (.lst ((turnL f xs js).map V.int)) → Q (.ref p) H') : spFolds f ([.ref a, .ref b] ++ []) H Q E := ⟨a, b, xs, refs, js, rfl, h1, h2, h3, h4, h5, q⟩
theorem rd_callL {σ : L2.St} {H : Hp} {Q : VK} {i : Nat} {f : Addr} {sp : Sp} {dvs : List V} {E : XK} {t : TA} (e : σ[i]? = some (some (.ref f))) (h : t σ H fun vs H1 => sp (vs ++ dvs) H1 Q E) : tCallL i f sp dvs E t σ H Q := ⟨e, h⟩
section
variable {K : PySem.W.Frag} {H : Hp} {Q : VK}
theorem isiT_lst {a t : Addr} {xs : List V} (h : H a = some (.lst xs)) (ht : H t = some (.tup [.ty "list", .ty "tuple"])) (q : Q (.bl true) H) : rIsiT K [.ref a, .ref t] H Q :=
  ⟨.ref a, t, _, .type "list", [.type "list", .type "tuple"], true, rfl, ht, .cons (.ty "list") (.cons (.ty "tuple") .nil), .base (.lst h), rfl, q⟩
end
theorem rd_appG {a : Addr} {xs : List V} {v : V} {H : Hp} {Q : VK} (h : H a = some (.lst xs)) (n : xs.length ≤ 1000) (q : Q .non (upd H a (.lst (xs ++ [v])))) : rAppend (.ref a) [v] H Q := ⟨a, _, _, rfl, rfl, h, small1000 n, q⟩
theorem JsAt.snoc {H : Hp} {vs : List V} {js : List Jo} {j : Jo} {a q : Addr} (h : JsAt H vs js) (e1 : H a = some (.tup [.int (j.1 : Nat), .ref q])) (e2 : H q = some (.tup [.int (j.2.1 : Nat), .int (j.2.2 : Nat)])) : JsAt H (vs ++ [.ref a]) (js ++ [j]) := by
  refine ⟨by simp [h.1], fun i v hv => ?_⟩
  by_cases c : i < vs.length
  · rw [List.getElem?_append_left c] at hv
    obtain ⟨j', a', q', f1, f2, f3, f4⟩ := h.2 i v hv
    exact ⟨j', a', q', by rw [List.getElem?_append_left (by rw [← h.1]; exact c)]; exact f1, f2, f3, f4⟩
  · have hi : i = vs.length := by
      have := (List.getElem?_eq_some_iff.mp hv).1
      simp at this
      omega
    subst hi
    rw [List.getElem?_append_right (Nat.le_refl _), Nat.sub_self] at hv
    have ev : V.ref a = v := Option.some.inj hv
    subst ev
    refine ⟨j, a, q, ?_, rfl, e1, e2⟩
    rw [h.1, List.getElem?_append_right (Nat.le_refl _), Nat.sub_self]
    rfl
def spLJoints : Sp := fun vs H Q _ => ∃ (p : Addr) (n : Nat), vs = [.ref p, .int (n : Nat)] ∧ Pool H p ∧ n ≤ 100 ∧ ∀ D H' refs js, H D = none → H' D = some (.lst refs) → JsAt H' refs js → Rm n 0 0 js → Pool H' p → Kp p H H' → Q (.ref D) H'
theorem use_ljoints {p : Addr} {n : Nat} {H : Hp} {Q : VK} {E : XK} (h : Pool H p) (hn : n ≤ 100) (q : ∀ D H' refs js, H D = none → H' D = some (.lst refs) → JsAt H' refs js → Rm n 0 0 js → Pool H' p → Kp p H H' → Q (.ref D) H') : spLJoints ([.ref p, .int (n : Nat)] ++ []) H Q E := ⟨p, n, rfl, h, hn, q⟩
def optV : Option Nat → V
  | some m => .int (m : Nat)
  | none => .non
def spPartner : Sp := fun vs H Q _ => ∃ (b : Addr) (refs : List V) (js : List Jo) (n k : Nat), vs = [.ref b, .int (k : Nat)] ∧ H b = some (.lst refs) ∧ JsAt H refs js ∧ Rm n 0 0 js ∧ Q (optV (prt js k)) H
theorem use_partner {b : Addr} {refs : List V} {js : List Jo} {n k : Nat} {H : Hp} {Q : VK} {E : XK} (h1 : H b = some (.lst refs)) (h2 : JsAt H refs js) (h3 : Rm n 0 0 js) (q : Q (optV (prt js k)) H) : spPartner ([.ref b, .int (k : Nat)] ++ []) H Q E := ⟨b, refs, js, n, k, rfl, h1, h2, h3, q⟩
theorem JsAt.new' {q : Addr} {H : Hp} {o : HO} {vs : List V} {js : List Jo} (n : H q = none) (h : JsAt H vs js) : JsAt (upd H q o) vs js := h.same (same_new n)
theorem JsAt.same' {H H' : Hp} {vs : List V} {js : List Jo} (s : Same H H') (h : JsAt H vs js) : JsAt H' vs js := h.same s
theorem JsAt.at' {q : Addr} {xs : List V} {H : Hp} {o : HO} {vs : List V} {js : List Jo} (n : H q = some (.lst xs)) (h : JsAt H vs js) : JsAt (upd H q o) vs js := h.kp Kp.at ⟨_, n⟩
def KpL (l : List Addr) (H H' : Hp) : Prop := ∀ a o, a ∉ l → H a = some o → H' a = some o
section
variable {l : List Addr} {p q : Addr} {H H' H1 H2 : Hp} {o : HO}
theorem KpL.refl : KpL l H H := fun _ _ _ h => h
theorem KpL.trans (a : KpL l H H1) (b : KpL l H1 H2) : KpL l H H2 := fun c o n h => b c o n (a c o n h)
theorem KpL.ofS (s : Same H H') : KpL l H H' := fun a o _ h => s a o h
theorem KpL.ofK (m : p ∈ l) (k : Kp p H H') : KpL l H H' := fun a o n h => k a o (fun z => n (by rw [z]; exact m)) h
theorem KpL.new (n : H q = none) : KpL l H (upd H q o) := .ofS (same_new n)
theorem KpL.at (m : q ∈ l) : KpL l H (upd H q o) := fun a x n h => by
  have ne : a ≠ q := fun z => n (by rw [z]; exact m)
  rw [upd_ne ne]
  exact h
theorem KpL.mono {m : List Addr} (h : ∀ a ∈ l, a ∈ m) (k : KpL l H H') : KpL m H H' := fun a o n e => k a o (fun z => n (h a z)) e
theorem KpL.free (k : KpL l H H') (n : H' q = none) (m : q ∉ l) : H q = none := by
  cases e : H q with
  | none => rfl
  | some o => rw [k _ _ m e] at n; cases n
end
end Z
namespace Z
open PySem PySem.Spec PyProof.Rows L2
/-- the tuple at a, each item in a new pair -/
def IteT (K : PySem.W.Frag) (a : Addr) : It :=
  ⟨fun i H => ∃ (xs : List V) (x : V), SqT K H a xs ∧ xs[i]? = some x, fun i H v H' => ∃ T x, v = .ref T ∧ H T = none ∧ H' = upd H T (.tup [.int (i : Nat), x]) ∧ ∀ xs, SqT K H a xs → xs[i]? = some x, fun i H => ∃ xs : List V, SqT K H a xs ∧ xs.length = i⟩
def iEnumA (K : PySem.W.Frag) (ta : TA) : TI := fun σ H R => ta σ H fun vs H1 => ∃ a xs, vs = [.ref a] ∧ ((SqL K H1 a xs ∧ R (Ite K a) H1) ∨ (SqT K H1 a xs ∧ R (IteT K a) H1))
def iSeq (K : PySem.W.Frag) (tl : TE) : TI := fun σ H R => tl σ H fun x H1 => ∃ a xs, x = .ref a ∧ ((SqL K H1 a xs ∧ R (Itl K a) H1) ∨ (SqT K H1 a xs ∧ R (Itt K a) H1))
def LT (H : Hp) (a : Addr) (xs : List V) : Prop := H a = some (.lst xs) ∨ H a = some (.tup xs)
section
variable {K : PySem.W.Frag} {σ : L2.St} {H H' : Hp} {Q : VK} {g : TG} {tb : TS} {D : Ends} {a : Addr} {xs : List V}
theorem LT.same (s : Same H H') (h : LT H a xs) : LT H' a xs := h.imp (s _ _) (s _ _)
theorem LT.same' (s : Same H H') (h : LT H a xs) : LT H' a xs := h.same s
theorem LT.new' {q : Addr} {o : HO} (n : H q = none) (h : LT H a xs) : LT (upd H q o) a xs := h.same (same_new n)
theorem LT.l (h : H a = some (.lst xs)) : LT H a xs := .inl h
theorem LT.t (h : H a = some (.tup xs)) : LT H a xs := .inr h
theorem LT.ne {q : Addr} (h : LT H a xs) (n : H q = none) : a ≠ q := by
  rcases h with h | h
  · exact ne_of_none h n
  · exact ne_of_none h n
theorem rd_lenA (h : LT H a xs) (q : Q (.int xs.length) H) : rLen K [.ref a] H Q := by
  rcases h with h | h
  · exact rd_lenL (SqL.of h) q
  · exact rd_lenT (SqT.of h) q
theorem rd_listA (h : LT H a xs) (q : ∀ l, H l = none → Q (.ref l) (upd H l (.lst xs))) : rToList K [.ref a] H Q := by
  rcases h with h | h
  · exact ⟨a, xs, rfl, .inl (SqL.of h), q⟩
  · exact ⟨a, xs, rfl, .inr (SqT.of h), q⟩
theorem rd_forEA {ts : TA} (h : ts σ H fun vs H1 => ∃ a xs, vs = [.ref a] ∧ ((SqL K H1 a xs ∧ LpW (Ite K a) g tb D σ H1) ∨ (SqT K H1 a xs ∧ LpW (IteT K a) g tb D σ H1))) : tFor (iEnumA K ts) g tb D σ H := h
theorem rd_forS {te : TE} (h : te σ H fun x H1 => ∃ a xs, x = .ref a ∧ ((SqL K H1 a xs ∧ LpW (Itl K a) g tb D σ H1) ∨ (SqT K H1 a xs ∧ LpW (Itt K a) g tb D σ H1))) : tFor (iSeq K te) g tb D σ H := h
theorem rd_cut {t u : TS} (M : L2.St → Hp → Prop) (h1 : t { D with nx := M } σ H) (h2 : ∀ σ' H', M σ' H' → u D σ' H') : C8.tCut t u D σ H := ⟨M, h1, h2⟩
end
theorem getD_some {xs : List Int} {k : Nat} {z : Int} (h : xs[k]? = some z) : xs.getD k 0 = z := by rw [List.getD_eq_getElem?_getD, h]; rfl
theorem JsAt.tail {H : Hp} {v : V} {vs : List V} {j : Jo} {js : List Jo} (h : JsAt H (v :: vs) (j :: js)) : JsAt H vs js := ⟨Nat.succ.inj h.1, fun i w e => h.2 (i + 1) w e⟩
def rToTup (K : PySem.W.Frag) : List V → Hp → VK → Prop := fun xs H Q => ∃ p ys, xs = [.ref p] ∧ ((SqL K H p ys ∧ ∀ l, H l = none → Q (.ref l) (upd H l (.tup ys))) ∨ (SqT K H p ys ∧ Q (.ref p) H))
theorem cTuple {X : Cx} : CallR X (.type "tuple") (rToTup X.K) := call_tuple_of
theorem rd_tupL {K : PySem.W.Frag} {H : Hp} {Q : VK} {p : Addr} {xs : List V} (h : SqL K H p xs) (q : ∀ l, H l = none → Q (.ref l) (upd H l (.tup xs))) : rToTup K [.ref p] H Q := ⟨p, xs, rfl, .inl ⟨h, q⟩⟩
def spItemsA : Sp := fun vs H Q _ => ∃ (a : Addr) (ns : List Int), vs = [.ref a] ∧ LT H a (ns.map V.int) ∧ ∀ H', Same H H' → Q .non H'
theorem use_itemsA {a : Addr} {ns : List Int} {H : Hp} {Q : VK} {E : XK} (h : LT H a (ns.map V.int)) (q : ∀ H', Same H H' → Q .non H') : spItemsA ([.ref a] ++ []) H Q E := ⟨a, ns, rfl, h, q⟩
def spSoundA : Sp := spItemsA
theorem use_soundA {a : Addr} {ns : List Int} {H : Hp} {Q : VK} {E : XK} (h : LT H a (ns.map V.int)) (q : ∀ H', Same H H' → Q .non H') : spSoundA ([.ref a] ++ []) H Q E := ⟨a, ns, rfl, h, q⟩
def spFoldsA (f : Int → Int → Int → Int × Int) : Sp := fun vs H Q _ => ∃ (a b : Addr) (xs : List Int) (refs : List V) (js : List Jo), vs = [.ref a, .ref b] ∧ LT H a (xs.map V.int) ∧ LT H b refs ∧ JsAt H refs js ∧ Rm xs.length 0 0 js ∧ xs.length ≤ 10000 ∧
  ∀ p H', H p = none → Same H H' → H' p = some (.lst ((turnL f xs js).map V.int)) → Q (.ref p) H'
theorem use_foldsA {f : Int → Int → Int → Int × Int} {a b : Addr} {xs : List Int} {refs : List V} {js : List Jo} {H : Hp} {Q : VK} {E : XK} (h1 : LT H a (xs.map V.int)) (h2 : LT H b refs) (h3 : JsAt H refs js) (h4 : Rm xs.length 0 0 js) (h5 : xs.length ≤ 10000)
    (q : ∀ p H', H p = none → Same H H' → H' p = some (.lst ((turnL f xs js).map V.int)) → Q (.ref p) H') : spFoldsA f ([.ref a, .ref b] ++ []) H Q E := ⟨a, b, xs, refs, js, rfl, h1, h2, h3, h4, h5, q⟩
theorem use_foldsAK {f : Int → Int → Int → Int × Int} {a b : Addr} {xs : List Int} {refs : List V} {js : List Jo} {H : Hp} {Q : VK} {E : XK} (h1 : LT H a (xs.map V.int)) (h2 : LT H b refs) (h3 : JsAt H refs js) (h4 : Rm xs.length 0 0 js) (h5 : xs.length ≤ 10000)
    (q : ∀ p H', H p = none → Same H H' → H' p = some (.lst ((turnL f xs js).map V.int)) → Q (.ref p) H') : spFoldsA f (kg 0 2 [1, 0] [] [.ref b, .ref a]) H Q E := ⟨a, b, xs, refs, js, rfl, h1, h2, h3, h4, h5, q⟩
end Z
namespace Z
open PySem PySem.Spec PyProof.Rows L2
/-- the last k binary digits of u, as signs -/
def lowB (u : Nat) : Nat → List Nat
  | 0 => []
  | k + 1 => lowB (u / 2) k ++ [48 + u % 2]
/-- the number of signs -/
def valB (l : List Nat) : Nat := l.foldl (fun a c => 2 * a + (c - 48)) 0
theorem lowB_length (u : Nat) : ∀ k, (lowB u k).length = k
  | 0 => rfl
  | k + 1 => by
    show (lowB (u / 2) k ++ [48 + u % 2]).length = k + 1
    rw [List.length_append, lowB_length (u / 2) k]
    rfl
theorem lowB_bin : ∀ (k u : Nat), ∀ c ∈ lowB u k, c = 48 ∨ c = 49
  | 0, _, c, h => absurd h List.not_mem_nil
  | k + 1, u, c, h => by
    rcases List.mem_append.mp h with h | h
    · exact lowB_bin k (u / 2) c h
    · rw [List.mem_singleton.mp h]
      omega
theorem valB_snoc (l : List Nat) (c : Nat) : valB (l ++ [c]) = 2 * valB l + (c - 48) := by
  unfold valB
  rw [List.foldl_append]
  rfl
theorem valB_lowB : ∀ k u : Nat, valB (lowB u k) = u % 2 ^ k
  | 0, u => by
    show 0 = u % 1
    omega
  | k + 1, u => by
    show valB (lowB (u / 2) k ++ [48 + u % 2]) = _
    rw [valB_snoc, valB_lowB k (u / 2), Nat.pow_succ, Nat.mul_comm (2 ^ k) 2, Nat.mod_mul]
    omega
/-- how many binary digits -/
def nb (u : Nat) : Nat := if u = 0 then 1 else Nat.log2 u + 1
theorem nb_lt (u : Nat) : u < 2 ^ nb u := by
  unfold nb
  split
  · omega
  · exact Nat.lt_log2_self
theorem nb_le {u : Nat} (h : u ≠ 0) : 2 ^ (nb u - 1) ≤ u := by
  unfold nb
  rw [if_neg h]
  exact Nat.log2_self_le h
/-- the binary digits, as Python writes them -/
def binB (u : Nat) : List Nat := lowB u (nb u)
theorem lowB_drop (a : Nat) : ∀ (k u : Nat), (lowB u (a + k)).drop a = lowB u k
  | 0, u => List.drop_eq_nil_of_le (by rw [lowB_length]; exact Nat.le_refl _)
  | k + 1, u => by
    show (lowB (u / 2) (a + k) ++ [48 + u % 2]).drop a = lowB (u / 2) k ++ [48 + u % 2]
    rw [List.drop_append_of_le_length (by rw [lowB_length]; omega), lowB_drop a k (u / 2)]
theorem lowB_zero : ∀ a : Nat, lowB 0 a = List.replicate a 48
  | 0 => rfl
  | a + 1 => by
    show lowB 0 a ++ [48] = _
    rw [lowB_zero a, List.replicate_succ']
theorem lowB_big (a : Nat) : ∀ (j u : Nat), u < 2 ^ j → lowB u (a + j) = List.replicate a 48 ++ lowB u j
  | 0, u, h => by
    have e : u = 0 := by have : (2 : Nat) ^ 0 = 1 := rfl; omega
    subst e
    rw [lowB_zero]
    exact (List.append_nil _).symm
  | j + 1, u, h => by
    show lowB (u / 2) (a + j) ++ [48 + u % 2] = List.replicate a 48 ++ (lowB (u / 2) j ++ [48 + u % 2])
    rw [lowB_big a j (u / 2) (by rw [Nat.pow_succ] at h; omega), List.append_assoc]
theorem lowB_front : ∀ (k u : Nat), lowB u (k + 1) = (48 + u / 2 ^ k % 2) :: lowB u k
  | 0, u => by
    show [] ++ [48 + u % 2] = [48 + u / 1 % 2]
    rw [Nat.div_one]
    rfl
  | k + 1, u => by
    show lowB (u / 2) (k + 1) ++ [48 + u % 2] = (48 + u / 2 ^ (k + 1) % 2) :: (lowB (u / 2) k ++ [48 + u % 2])
    rw [lowB_front k (u / 2), Nat.div_div_eq_div_mul, Nat.pow_succ, Nat.mul_comm 2 (2 ^ k)]
    rfl
theorem nb_min {u j : Nat} (h : u < 2 ^ j) (hj : 1 ≤ j) : nb u ≤ j := by
  by_cases e : u = 0
  · unfold nb
    rw [if_pos e]
    exact hj
  · have h1 := nb_le e
    have h2 : 2 ^ (nb u - 1) < 2 ^ j := Nat.lt_of_le_of_lt h1 h
    have h3 := (Nat.pow_lt_pow_iff_right (by decide : 1 < 2)).mp h2
    omega
theorem nb_pos (u : Nat) : 1 ≤ nb u := by
  unfold nb
  split <;> omega
theorem binB_length (u : Nat) : (binB u).length = nb u := lowB_length _ _
theorem low_fill2 (u k j : Nat) (h : u < 2 ^ j) : (List.replicate k 48 ++ lowB u j).drop ((List.replicate k 48 ++ lowB u j).length - k) = lowB u k := by
  rw [← lowB_big k j u h, lowB_length, show k + j - k = j by omega, Nat.add_comm k j]
  exact lowB_drop j k u
/-- the bits of a code number -/
def encB (u k : Nat) : List Nat := if u / 2 ^ k < 20 then List.replicate (u / 2 ^ k) 49 ++ [48] ++ lowB u k else List.replicate (19 + nb u) 49 ++ [48] ++ binB u
theorem encB_len (u k : Nat) : (encB u k).length ≤ 21 + k + 2 * nb u := by
  unfold encB
  split
  · rw [List.length_append, List.length_append, List.length_replicate, lowB_length]
    show _ + 1 + k ≤ _
    omega
  · rw [List.length_append, List.length_append, List.length_replicate, binB_length]
    show _ + 1 + _ ≤ _
    omega
theorem encB_bin (u k : Nat) : ∀ c ∈ encB u k, c = 48 ∨ c = 49 := by
  intro c h
  unfold encB at h
  split at h
  · rcases List.mem_append.mp h with h | h
    · rcases List.mem_append.mp h with h | h
      · exact .inr (List.eq_of_mem_replicate h)
      · exact .inl (List.mem_singleton.mp h)
    · exact lowB_bin _ _ c h
  · rcases List.mem_append.mp h with h | h
    · rcases List.mem_append.mp h with h | h
      · exact .inr (List.eq_of_mem_replicate h)
      · exact .inl (List.mem_singleton.mp h)
    · exact lowB_bin _ _ c h
abbrev Tb := Int × Int
def tbB (t : Tb) (u : Nat) : Tb := if t.2 + 1 > 15 then ((t.1 + (u : Int)) / 2, 8) else (t.1 + (u : Int), t.2 + 1)
def uOf (n : Int) : Nat := (codeU n).toNat
theorem uOf_eq (n : Int) : ((uOf n : Nat) : Int) = codeU n := by
  unfold uOf codeU
  split <;> omega
def wst (ns : List Int) (first : Nat) (T : Tb × Tb) : Nat → List (List Nat) × (Tb × Tb)
  | 0 => ([], T)
  | i + 1 =>
    let s := wst ns first T i
    let u := uOf (ns.getD i 0)
    if i < first then (s.1 ++ [encB u (par s.2.1.1 s.2.1.2)], (tbB s.2.1 u, s.2.2)) else (s.1 ++ [encB u (par s.2.2.1 s.2.2.2)], (s.2.1, tbB s.2.2 u))
/-- a table in its limits, its total at most m -/
def TbOk (m : Int) (t : Tb) : Prop := 0 ≤ t.1 ∧ t.1 ≤ m ∧ 1 ≤ t.2 ∧ t.2 ≤ 15
theorem tbB_ok {m : Int} {t : Tb} {u : Nat} (h : TbOk m t) (hu : (u : Int) ≤ 10 ^ 56) : TbOk (m + 10 ^ 56) (tbB t u) := by
  obtain ⟨h1, h2, h3, h4⟩ := h
  unfold tbB
  split
  · refine ⟨?_, ?_, by show (1 : Int) ≤ 8; decide, by show (8 : Int) ≤ 15; decide⟩
    · show 0 ≤ (t.1 + (u : Int)) / 2
      omega
    · show (t.1 + (u : Int)) / 2 ≤ m + 10 ^ 56
      omega
  · exact ⟨by show 0 ≤ t.1 + (u : Int); omega, by show t.1 + (u : Int) ≤ m + 10 ^ 56; omega, by show 1 ≤ t.2 + 1; omega, by show t.2 + 1 ≤ 15; omega⟩
theorem TbOk.mono {m n : Int} {t : Tb} (h : TbOk m t) (e : m ≤ n) : TbOk n t := ⟨h.1, Int.le_trans h.2.1 e, h.2.2⟩
theorem uOf_le {n : Int} (h : n.natAbs < 10 ^ 55) : ((uOf n : Nat) : Int) ≤ 10 ^ 56 := by
  rw [uOf_eq]
  unfold codeU
  split <;> omega
theorem wst_ok {ns : List Int} {first : Nat} {T : Tb × Tb} (hn : ∀ z ∈ ns, z.natAbs < 10 ^ 55) (h0 : TbOk (10 ^ 58) T.1) (h1 : TbOk (10 ^ 58) T.2) : ∀ i : Nat, i ≤ 64 → TbOk (10 ^ 58 + (i : Int) * 10 ^ 56) (wst ns first T i).2.1 ∧ TbOk (10 ^ 58 + (i : Int) * 10 ^ 56) (wst ns first T i).2.2
  | 0, _ => ⟨h0.mono (by omega), h1.mono (by omega)⟩
  | i + 1, hi => by
    obtain ⟨a, b⟩ := wst_ok (first := first) hn h0 h1 i (by omega)
    have hu : ((uOf (ns.getD i 0) : Nat) : Int) ≤ 10 ^ 56 := uOf_le (by
      rw [List.getD_eq_getElem?_getD]
      cases e : ns[i]? with
      | none => decide
      | some z => exact hn z (List.mem_of_getElem? e))
    show TbOk _ (if i < first then _ else _ : List (List Nat) × (Tb × Tb)).2.1 ∧ TbOk _ (if i < first then _ else _ : List (List Nat) × (Tb × Tb)).2.2
    by_cases c : i < first
    · rw [if_pos c]
      exact ⟨(tbB_ok a hu).mono (by push_cast; omega), b.mono (by push_cast; omega)⟩
    · rw [if_neg c]
      exact ⟨a.mono (by push_cast; omega), (tbB_ok b hu).mono (by push_cast; omega)⟩
theorem wst_len (ns : List Int) (first : Nat) (T : Tb × Tb) : ∀ i, (wst ns first T i).1.length = i
  | 0 => rfl
  | i + 1 => by
    show (if i < first then _ else _ : List (List Nat) × (Tb × Tb)).1.length = i + 1
    split
    · rw [List.length_append, wst_len ns first T i]; rfl
    · rw [List.length_append, wst_len ns first T i]; rfl
end Z
namespace Z
open PySem PySem.Spec PyProof.Rows L2
open SX (S S_len S_cat S_inj)
section
open PySem.Builtin PySem.Builtin.Str PySem.Builtin.Int PySem.Builtin.Float
theorem eb : Str.ofString "b" = S [98] := by rfl
end
end Z
namespace Z
open PySem PySem.Spec PyProof.Rows L2
open SX (S S_len S_cat S_inj)
theorem S_add (a b : List Nat) : S a ++ S b = S (a ++ b) := S_cat a b
def rAddT : R2 := fun x y H Q => ∃ a b : List Nat, x = .str (S a) ∧ y = .str (S b) ∧ a.length + b.length ≤ 16777216 ∧ Q (.str (S (a ++ b))) H
theorem op_addT {X : Cx} : OpR X (binaryOp .Add) rAddT := by
  intro pins s σ H x y v u Q I rx ry h
  obtain ⟨a, b, rfl, rfl, hl, q⟩ := h
  exact op_add_str pins s σ H _ _ v u Q I rx ry ⟨S a, S b, rfl, rfl, by rw [S_len, S_len]; exact hl, by rw [S_add]; exact q⟩
theorem fold_app : ∀ (n : Nat) (a acc : Array Nat), (List.replicate n a).foldl (· ++ ·) acc = acc ++ ((List.replicate n a.toList).flatten).toArray
  | 0, a, acc => by simp
  | n + 1, a, acc => by
    rw [List.replicate_succ, List.foldl_cons, fold_app n a, List.replicate_succ, List.flatten_cons]
    refine Array.toList_inj.mp ?_
    rw [Array.toList_append, Array.toList_append, Array.toList_append, List.append_assoc]
/-- a text, so many times -/
def repL (l : List Nat) (n : Nat) : List Nat := (List.replicate n l).flatten
theorem repL_one (c n : Nat) : repL [c] n = List.replicate n c := by
  induction n with
  | zero => rfl
  | succ n ih =>
    unfold repL at ih ⊢
    rw [List.replicate_succ, List.flatten_cons, ih]
    rfl
theorem repL_length (l : List Nat) : ∀ n, (repL l n).length = n * l.length
  | 0 => by simp [repL]
  | n + 1 => by
    have ih := repL_length l n
    unfold repL at ih ⊢
    rw [List.replicate_succ, List.flatten_cons, List.length_append, ih, Nat.succ_mul, Nat.add_comm]
theorem repL_nil : ∀ n, repL [] n = []
  | 0 => rfl
  | n + 1 => by
    have ih := repL_nil n
    unfold repL at ih ⊢
    rw [List.replicate_succ, List.flatten_cons, ih]
    rfl
def rMulT : R2 := fun x y H Q => ∃ (a : List Nat) (k : Int), x = .str (S a) ∧ y = .int k ∧ -1000000 ≤ k ∧ k ≤ 1000000 ∧ a.length * k.toNat ≤ 1000000 ∧ Q (.str (S (repL a k.toNat))) H
theorem tooLong_no {n : Nat} (h : n ≤ 1000000) : Builtin.Str.tooLong n = false := by
  have z : 1000000 < sizeLine := by decide
  unfold Builtin.Str.tooLong
  first
    | exact decide_eq_false (by omega)
    | (simp; omega)
theorem op_mulT {X : Cx} : OpR X (binaryOp .Mult) rMulT := by
  intro pins s σ H x y v u Q I rx ry h
  obtain ⟨a, k, rfl, rfl, h1, h2, hl, q⟩ := h
  obtain ⟨t, rfl⟩ := rx
  obtain ⟨t', rfl⟩ := ry
  refine P.mul_str (by rw [decide_eq_false (by omega), decide_eq_false (by omega)]; rfl) (fun c _ z => ?_) (fun _ _ => tooLong_no (by rw [S_len]; exact hl)) ?_
  · have hk : (1 : Int) ≤ k := by omega
    rw [S_len] at z
    have hl2 : (a.length : Int) * k ≤ 1000000 := by
      obtain ⟨m, rfl⟩ : ∃ m : Nat, k = (m : Int) := ⟨k.toNat, by omega⟩
      rw [Int.toNat_natCast] at hl
      have z0 := Int.ofNat_le.mpr hl
      rw [Int.natCast_mul] at z0
      exact z0
    have z2 : (a.length : Int) ≤ (a.length : Int) * k := by
      have := Int.mul_le_mul_of_nonneg_left hk (show (0 : Int) ≤ a.length by omega)
      rw [Int.mul_one] at this
      exact this
    have z3 : (1000000 : Int) ≤ (2 ^ 63 - 1) / k := (Int.le_ediv_iff_mul_le (by omega)).mpr (Int.le_trans (Int.mul_le_mul_of_nonneg_left h2 (show (0 : Int) ≤ 1000000 by decide)) (by decide))
    omega
  · by_cases c : k < 1
    · rw [if_pos c]
      have e : k.toNat = 0 := by omega
      rw [e] at q
      exact ⟨by decide, ⟨.str Str.empty, H, I.tok _, ⟨_, rfl⟩, q⟩⟩
    · rw [if_neg c]
      cases d : (k == 1 || (S a).length == 0) with
      | true =>
        rw [if_pos rfl]
        have e : repL a k.toNat = a := by
          rw [Bool.or_eq_true, beq_iff_eq, beq_iff_eq, S_len] at d
          rcases d with d | d
          · rw [d]
            exact List.append_nil a
          · rw [List.length_eq_zero_iff] at d
            rw [d]
            exact repL_nil _
        rw [e] at q
        exact ⟨.str (S a), H, I, ⟨t, rfl⟩, q⟩
      | false =>
        rw [if_neg Bool.false_ne_true]
        have e : (⟨(List.replicate k.toNat (S a).cps).foldl (· ++ ·) #[]⟩ : Str) = S (repL a k.toNat) := by
          rw [fold_app]
          exact TL.ext_tl (by
            show (#[] ++ _ : Array Nat).toList = _
            rw [Array.toList_append]
            rfl)
        rw [e]
        exact ⟨by rw [S_len, repL_length, Nat.mul_comm]; exact Nat.le_trans hl (by decide), ⟨.str _, H, I.tok _, ⟨_, rfl⟩, q⟩⟩
theorem e_empty : Str.ofString "" = S [] := by rfl
theorem e_0 : Str.ofString "0" = S [48] := by rfl
theorem e_1 : Str.ofString "1" = S [49] := by rfl
theorem e_01 : Str.ofString "01" = S [48, 49] := by rfl
section
variable {X : Cx}
def tFmtB (te ts : TE) : TE := fun σ H Q => te σ H fun x H1 => ts σ H1 fun y H2 => ∃ n : Nat, x = .int (n : Int) ∧ y = .str (S [98]) ∧ nb n ≤ 16777216 ∧ Q (.str (S (binB n))) H2
end
theorem joinL_flat : ∀ ys : List (List Nat), TL.joinL [] ys = ys.flatten
  | [] => rfl
  | [p] => (List.append_nil p).symm
  | p :: q :: r => by
    show p ++ ([] ++ TL.joinL [] (q :: r)) = p ++ (q :: r).flatten
    rw [joinL_flat (q :: r)]
    rfl
def rJoin (K : PySem.W.Frag) : V → List V → Hp → VK → Prop := fun x xs H Q => ∃ a p, ∃ ys : List Str, x = .str a ∧ xs = [.ref p] ∧ (SqL K H p (ys.map V.str) ∨ SqT K H p (ys.map V.str)) ∧
    (ys.map (·.length)).sum + ys.length * a.length ≤ 16777216 ∧ Q (.str (Txt.join a ys)) H
theorem mt_joinK {X : Cx} : MtR X "str.join" (rJoin X.K) := mt_join
section
variable {K : PySem.W.Frag} {σ : L2.St} {H : Hp} {Q : VK}
theorem rd_addT {a b : List Nat} {x y : Str} (e1 : x = S a) (e2 : y = S b) (hl : a.length + b.length ≤ 16777216) (h : Q (.str (S (a ++ b))) H) : rAddT (.str x) (.str y) H Q := ⟨a, b, congrArg V.str e1, congrArg V.str e2, hl, h⟩
theorem rd_mulT {c : Nat} {x : Str} {k : Nat} (e1 : x = S [c]) (hl : k ≤ 1000000) (h : Q (.str (S (List.replicate k c))) H) : rMulT (.str x) (.int (k : Int)) H Q :=
  ⟨[c], (k : Int), congrArg V.str e1, rfl, by omega, by omega, by rw [Int.toNat_natCast]; show 1 * k ≤ _; omega, by rw [Int.toNat_natCast, repL_one]; exact h⟩
theorem rd_lenS {l : List Nat} (hl : l.length ≤ 16777216) (h : Q (.int (l.length : Nat)) H) : rLen K [.str (S l)] H Q := ⟨.str (S l), l.length, rfl, ⟨by rw [S_len]; exact hl, (S_len l).symm⟩, h⟩
theorem rd_slSF {l : List Nat} {k : Nat} (hl : l.length ≤ 16777216) (h : Q (.str (S (l.drop k))) H) : C8.rSlX (.str (S l)) (some (k : Int)) none H Q := ⟨S l, rfl, by rw [S_len]; exact hl, by rw [SX.slice_from (by omega), Int.toNat_natCast]; exact h⟩
theorem rd_slST {l : List Nat} {k : Nat} (hl : l.length ≤ 16777216) (h : Q (.str (S (l.take k))) H) : C8.rSlX (.str (S l)) none (some (k : Int)) H Q := ⟨S l, rfl, by rw [S_len]; exact hl, by rw [SX.slice_to (by omega), Int.toNat_natCast]; exact h⟩
theorem rd_joinS {p : Addr} {ls : List (List Nat)} {x : Str} (e : x = S []) (hp : SqL K H p (ls.map fun l => V.str (S l))) (hl : ls.flatten.length ≤ 16777216) (h : Q (.str (S ls.flatten)) H) : rJoin K (.str x) [.ref p] H Q := by
  refine ⟨S [], p, ls.map S, congrArg V.str e, rfl, .inl ?_, ?_, ?_⟩
  · rw [List.map_map]
    exact hp
  · rw [SX.lens]
    show _ + _ * 0 ≤ _
    rw [Nat.mul_zero, Nat.add_zero, ← List.length_flatten]
    exact hl
  · rw [SX.join_S, joinL_flat]
    exact h
theorem rd_fmtb {te ts : TE} (h : te σ H fun x H1 => ts σ H1 fun y H2 => ∃ n : Nat, x = .int (n : Int) ∧ y = .str (S [98]) ∧ nb n ≤ 16777216 ∧ Q (.str (S (binB n))) H2) : tFmtB te ts σ H Q := h
theorem rd_fmtn {n : Nat} {x : Str} {P : Nat → Prop} (e : x = S [98]) (hl : nb n ≤ 16777216) (h : P n) : ∃ m : Nat, V.int (n : Int) = .int (m : Int) ∧ V.str x = .str (S [98]) ∧ nb m ≤ 16777216 ∧ P m := ⟨n, rfl, congrArg V.str e, hl, h⟩
theorem rd_ixS {l : List Nat} {x : Str} {i c : Nat} (e : x = S l) (hl : l.length ≤ 16777216) (a : l[i]? = some c) (h : Q (.str (S [c])) H) : rIxS (.str x) (.int (i : Int)) H Q := ⟨S l, (i : Int), c, congrArg V.str e, rfl, by rw [S_len]; exact hl, atI_nat a, h⟩
theorem rd_bmS {m : V → List V → Hp → VK → Prop} {to : TE} {ts : TA} (h : to σ H fun x H1 => tyV K "str" x H1 ∧ ts σ H1 fun xs H2 => m x xs H2 Q) : tBM K "str" m to ts σ H Q := h
theorem rd_tyS {x : Str} {P : Prop} (q : P) : tyV K "str" (.str x) H ∧ P := ⟨rfl, q⟩
end
end Z
namespace Z
open PySem PySem.Spec PyProof.Rows L2
open SX (S S_len S_cat S_inj)
def WlN (Pv : Nat → L2.St → Hp → Prop) (N i : Nat) (tb : TS) (D : Ends) (σ : L2.St) (H1 : Hp) : Prop :=
  ∃ Nx : L2.St → Hp → Prop, (∀ σ' H', Nx σ' H' → ∃ m', m' < N - i ∧ ∃ j, m' = N - j ∧ j ≤ N ∧ Pv j σ' H') ∧ tb { D with nx := Nx, ct := Nx, bk := D.nx } σ H1
section
variable {c : TT} {tb : TS} {D : Ends} {σ : L2.St} {H : Hp}
theorem while_n (Pv : Nat → L2.St → Hp → Prop) (N : Nat) (h0 : Pv 0 σ H) (hs : ∀ i σ H, i ≤ N → Pv i σ H → c σ H fun b H1 => if b = true then WlN Pv N i tb D σ H1 else D.nx σ H1) : tWhile c tb D σ H := by
  refine ⟨fun m σ H => ∃ j, m = N - j ∧ j ≤ N ∧ Pv j σ H, ⟨N, 0, rfl, Nat.zero_le _, h0⟩, ?_⟩
  rintro m σ H ⟨j, rfl, hj, p⟩
  exact hs j σ H hj p
theorem while_in {Pv : Nat → L2.St → Hp → Prop} {N i : Nat} (hi : i < N) (h : tb { D with nx := Pv (i + 1), ct := Pv (i + 1), bk := D.nx } σ H) : WlN Pv N i tb D σ H :=
  ⟨Pv (i + 1), fun σ' H' p => ⟨N - (i + 1), by omega, i + 1, rfl, hi, p⟩, h⟩
end
def LK (H H' : Hp) : Prop := ∀ b o, H b = some o → (∀ xs, o ≠ .lst xs) → H' b = some o
section
variable {K : PySem.W.Frag} {H H' H1 : Hp} {a q : Addr} {xs : List V} {o : HO}
theorem LK.refl : LK H H := fun _ _ h _ => h
theorem LK.trans (h : LK H H') (k : LK H' H1) : LK H H1 := fun b o e n => k b o (h b o e n) n
theorem LK.of (s : Same H H') : LK H H' := fun b o e _ => s b o e
theorem LK.new (n : H q = none) : LK H (upd H q o) := .of (same_new n)
theorem LK.at {ys : List V} (n : H q = some (.lst ys)) : LK H (upd H q o) := fun b x e nl => by
  have nb : b ≠ q := fun z => by
    rw [z, n] at e
    exact nl ys (Option.some.inj e).symm
  rw [upd_ne nb]
  exact e
theorem LK.pool {p : Addr} (h : Pool H p) (k : Kp p H H') : LK H H' := fun b x e nl => k b x (fun z => by
  obtain ⟨y1, y2, e2, _⟩ := h
  rw [z, e2] at e
  exact nl _ (Option.some.inj e).symm) e
theorem LK.seqT (s : LK H H') (h : SqT K H a xs) : SqT K H' a xs := by
  rcases h with (h | ⟨o, h⟩) | h
  · exact .inl (.inl (s _ _ h fun _ z => nomatch z))
  · exact .inl (.inr ⟨o, s _ _ h fun _ z => nomatch z⟩)
  · exact .inr h
theorem LK.tyo {t : Value} (ht : t = .type "tuple") (s : LK H H') (h : TyOf K H (.ref a) t) : TyOf K H' (.ref a) t := by
  cases h with
  | lst e => exact absurd ht (by decide)
  | frz e => exact .frz (s _ _ e fun _ z => nomatch z)
  | tup e => exact .tup (s _ _ e fun _ z => nomatch z)
  | dK e => exact .dK (s _ _ e fun _ z => nomatch z)
  | dT e => exact .dT (s _ _ e fun _ z => nomatch z)
  | ins e cl ha hn htk hm => exact .ins (s _ _ e fun _ z => nomatch z) cl ha hn htk hm
theorem LK.tyx (s : LK H H') (h : TyX K H (.ref a) (.type "tuple")) : TyX K H' (.ref a) (.type "tuple") := by
  generalize ht : (Value.type "tuple") = t at h ⊢
  cases h with
  | base b => exact .base (s.tyo ht.symm b)
  | set e => exact .set (s _ _ e fun _ z => nomatch z)
  | kList e c => exact .kList e c
  | kTuple e c => exact .kTuple e c
  | kDict e c => exact .kDict e c
  | fTuple e => exact .fTuple (s _ _ e fun _ z => nomatch z)
  | fDict e => exact .fDict (s _ _ e fun _ z => nomatch z)
theorem TupV.lk (s : LK H H') (h : TupV K H a xs) : TupV K H' a xs := ⟨s.seqT h.1, s.tyx h.2⟩
end
def TbV (K : PySem.W.Frag) (H : Hp) (r : Addr) (t : Tb) : Prop := TupV K H r [.int t.1, .int t.2]
def TbsV (K : PySem.W.Frag) (H : Hp) (a : Addr) (T : Tb × Tb) : Prop := ∃ r0 r1, TupV K H a [.ref r0, .ref r1] ∧ TbV K H r0 T.1 ∧ TbV K H r1 T.2
section
variable {K : PySem.W.Frag} {H H' : Hp} {a p : Addr} {t : Tb} {T : Tb × Tb}
theorem TbV.lk (s : LK H H') (h : TbV K H a t) : TbV K H' a t := TupV.lk s h
theorem TbsV.lk (s : LK H H') (h : TbsV K H a T) : TbsV K H' a T := let ⟨r0, r1, h0, h1, h2⟩ := h; ⟨r0, r1, h0.lk s, h1.lk s, h2.lk s⟩
theorem TbV.of (h : H a = some (.tup [.int t.1, .int t.2])) : TbV K H a t := TupV.of h
def spTblG (K : PySem.W.Frag) : Sp := fun vs H Q _ => ∃ (a : Addr) (t : Tb) (m : Int), vs = [.ref a] ∧ TbV K H a t ∧ TbOk m t ∧ Q (.bl true) H
def spTblsG (K : PySem.W.Frag) : Sp := fun vs H Q _ => ∃ (a : Addr) (T : Tb × Tb) (m : Int), vs = [.ref a] ∧ TbsV K H a T ∧ TbOk m T.1 ∧ TbOk m T.2 ∧ Q (.bl true) H
def spParG (K : PySem.W.Frag) : Sp := fun vs H Q _ => ∃ (a : Addr) (t : Tb) (m : Int), vs = [.ref a] ∧ TbV K H a t ∧ TbOk m t ∧ Q (.int (par t.1 t.2 : Nat)) H
def spBehind (K : PySem.W.Frag) : Sp := fun vs H Q _ => ∃ (a : Addr) (t : Tb) (m : Int) (u : Nat), vs = [.ref a, .int (u : Int)] ∧ TbV K H a t ∧ TbOk m t ∧ ∀ p, H p = none → Q (.ref p) (upd H p (.tup [.int (tbB t u).1, .int (tbB t u).2]))
def spBits : Sp := fun vs H Q _ => ∃ u k : Nat, vs = [.int (u : Int), .int (k : Int)] ∧ k ≤ 1000 ∧ nb u ≤ 100000 ∧ Q (.str (S (encB u k))) H
def spBinary : Sp := fun vs H Q _ => ∃ u : Nat, vs = [.int (u : Int)] ∧ nb u ≤ 100000 ∧ Q (.str (S (if u = 0 then [] else binB u))) H
def spCoding (K : PySem.W.Frag) : Sp := fun vs H Q _ => ∃ (n first : Nat) (a : Addr) (T : Tb × Tb) (m : Int), vs = [.int (n : Int), .int (first : Int), .ref a] ∧ first ≤ n ∧ TbsV K H a T ∧ TbOk m T.1 ∧ TbOk m T.2 ∧ Q .non H
def spWr (K : PySem.W.Frag) : Sp := fun vs H Q _ => ∃ (a : Addr) (ns : List Int) (first : Nat) (b : Addr) (T : Tb × Tb), vs = [.ref a, .int (first : Int), .ref b] ∧ H a = some (.lst (ns.map V.int)) ∧ ns.length ≤ 64 ∧ first ≤ ns.length ∧ (∀ z ∈ ns, z.natAbs < 10 ^ 55) ∧ TbsV K H b T ∧ TbOk (10 ^ 58) T.1 ∧ TbOk (10 ^ 58) T.2 ∧
  ∀ p q H', Same H H' → H p = none → H' p = some (.tup [.str (S (wst ns first T ns.length).1.flatten), .ref q]) → TbsV K H' q (wst ns first T ns.length).2 → Q (.ref p) H'
def spStart (K : PySem.W.Frag) : Sp := fun vs H Q _ => ∃ p, vs = [.ref p] ∧ Pool H p ∧ ∀ a T H', H a = none → TbsV K H' a T → TbOk (10 ^ 56) T.1 → TbOk (10 ^ 56) T.2 → Pool H' p → Kp p H H' → Q (.ref a) H'
end
theorem use_tblG {K : PySem.W.Frag} {H : Hp} {a : Addr} {t : Tb} {m : Int} {Q : VK} {E : XK} (h : TbV K H a t) (ok : TbOk m t) (q : Q (.bl true) H) : spTblG K ([.ref a] ++ []) H Q E := ⟨a, t, m, rfl, h, ok, q⟩
theorem use_tblsG {K : PySem.W.Frag} {H : Hp} {a : Addr} {T : Tb × Tb} {m : Int} {Q : VK} {E : XK} (h : TbsV K H a T) (o1 : TbOk m T.1) (o2 : TbOk m T.2) (q : Q (.bl true) H) : spTblsG K ([.ref a] ++ []) H Q E := ⟨a, T, m, rfl, h, o1, o2, q⟩
theorem use_parG {K : PySem.W.Frag} {H : Hp} {a : Addr} {t : Tb} {m : Int} {Q : VK} {E : XK} (h : TbV K H a t) (ok : TbOk m t) (q : Q (.int (par t.1 t.2 : Nat)) H) : spParG K ([.ref a] ++ []) H Q E := ⟨a, t, m, rfl, h, ok, q⟩
theorem use_behind {K : PySem.W.Frag} {H : Hp} {a : Addr} {t : Tb} {m : Int} {u : Nat} {Q : VK} {E : XK} (h : TbV K H a t) (ok : TbOk m t) (q : ∀ p, H p = none → Q (.ref p) (upd H p (.tup [.int (tbB t u).1, .int (tbB t u).2]))) : spBehind K ([.ref a, .int (u : Int)] ++ []) H Q E := ⟨a, t, m, u, rfl, h, ok, q⟩
theorem use_bits {u k : Nat} {H : Hp} {Q : VK} {E : XK} (hk : k ≤ 1000) (hu : nb u ≤ 100000) (q : Q (.str (S (encB u k))) H) : spBits ([.int (u : Int), .int (k : Int)] ++ []) H Q E := ⟨u, k, rfl, hk, hu, q⟩
theorem use_binary {u : Nat} {H : Hp} {Q : VK} {E : XK} (hu : nb u ≤ 100000) (q : Q (.str (S (if u = 0 then [] else binB u))) H) : spBinary ([.int (u : Int)] ++ []) H Q E := ⟨u, rfl, hu, q⟩
theorem use_coding {K : PySem.W.Frag} {n first : Nat} {a : Addr} {T : Tb × Tb} {m : Int} {H : Hp} {Q : VK} {E : XK} (h1 : first ≤ n) (h2 : TbsV K H a T) (o1 : TbOk m T.1) (o2 : TbOk m T.2) (q : Q .non H) : spCoding K ([.int (n : Int), .int (first : Int), .ref a] ++ []) H Q E := ⟨n, first, a, T, m, rfl, h1, h2, o1, o2, q⟩
theorem use_wr {K : PySem.W.Frag} {a b : Addr} {ns : List Int} {first : Nat} {T : Tb × Tb} {H : Hp} {Q : VK} {E : XK} (h1 : H a = some (.lst (ns.map V.int))) (h2 : ns.length ≤ 64) (h3 : first ≤ ns.length) (h4 : ∀ z ∈ ns, z.natAbs < 10 ^ 55) (h5 : TbsV K H b T) (h6 : TbOk (10 ^ 58) T.1) (h7 : TbOk (10 ^ 58) T.2)
    (q : ∀ p q H', Same H H' → H p = none → H' p = some (.tup [.str (S (wst ns first T ns.length).1.flatten), .ref q]) → TbsV K H' q (wst ns first T ns.length).2 → Q (.ref p) H') : spWr K ([.ref a, .int (first : Int), .ref b] ++ []) H Q E := ⟨a, ns, first, b, T, rfl, h1, h2, h3, h4, h5, h6, h7, q⟩
theorem use_start {K : PySem.W.Frag} {p : Addr} {H : Hp} {Q : VK} {E : XK} (h : Pool H p) (q : ∀ a T H', H a = none → TbsV K H' a T → TbOk (10 ^ 56) T.1 → TbOk (10 ^ 56) T.2 → Pool H' p → Kp p H H' → Q (.ref a) H') : spStart K ([.ref p] ++ []) H Q E := ⟨p, rfl, h, q⟩
theorem par_leG {m : Int} {t : Tb} (h : TbOk m t) (hm : m < 10 ^ 60) : par t.1 t.2 ≤ 300 := par_le h.1 h.2.2.1 (Int.lt_of_le_of_lt h.2.1 hm) h.2.2.2
theorem nb_small {u : Nat} (h : (u : Int) ≤ 10 ^ 56) : nb u ≤ 200 := by
  refine nb_min (j := 200) ?_ (by decide)
  have e : (10 : Nat) ^ 56 < 2 ^ 200 := by decide
  have h2 : u ≤ 10 ^ 56 := by
    have z : ((10 ^ 56 : Nat) : Int) = 10 ^ 56 := by norm_cast
    omega
  exact Nat.lt_of_le_of_lt h2 e
theorem shr_nat (u k : Nat) : ((u : Int) / 2 ^ ((k : Int)).toNat) = ((u / 2 ^ k : Nat) : Int) := by
  rw [Int.toNat_natCast]
  norm_cast
theorem rd_shr {u k : Nat} {H : Hp} {Q : VK} (h : Q (.int ((u / 2 ^ k : Nat) : Int)) H) : rI (fun _ j => 0 ≤ j) (fun i j => V.int (i / 2 ^ j.toNat)) (.int (u : Int)) (.int (k : Int)) H Q := ⟨(u : Int), (k : Int), rfl, rfl, by omega, by show Q (V.int ((u : Int) / 2 ^ ((k : Int)).toNat)) H; rw [shr_nat]; exact h⟩
theorem rd_bit {m : Nat} {H : Hp} {Q : VK} (h : Q (.str (S [48 + m % 2])) H) : rIxS (.str (Str.ofString "01")) (.int ((m : Int) % 2)) H Q := by
  rcases (show m % 2 = 0 ∨ m % 2 = 1 by omega) with e | e
  · rw [e] at h
    have e2 : (m : Int) % 2 = ((0 : Nat) : Int) := by omega
    rw [e2]
    exact rd_ixS e_01 (by decide) rfl h
  · rw [e] at h
    have e2 : (m : Int) % 2 = ((1 : Nat) : Int) := by omega
    rw [e2]
    exact rd_ixS e_01 (by decide) rfl h
theorem rd_listQ {K : PySem.W.Frag} {H : Hp} {Q : VK} {a : Addr} {xs : List V} (h : SqT K H a xs) (q : ∀ l, H l = none → Q (.ref l) (upd H l (.lst xs))) : rToList K [.ref a] H Q := ⟨a, xs, rfl, .inr h, q⟩
theorem half_nat (u : Nat) : ((u : Int) / 2) = ((u / 2 : Nat) : Int) := by omega
theorem wst_lo {ns : List Int} {first : Nat} {T : Tb × Tb} {i : Nat} (h : i < first) : wst ns first T (i + 1) = ((wst ns first T i).1 ++ [encB (uOf (ns.getD i 0)) (par (wst ns first T i).2.1.1 (wst ns first T i).2.1.2)], (tbB (wst ns first T i).2.1 (uOf (ns.getD i 0)), (wst ns first T i).2.2)) := if_pos h
theorem wst_hi {ns : List Int} {first : Nat} {T : Tb × Tb} {i : Nat} (h : ¬ i < first) : wst ns first T (i + 1) = ((wst ns first T i).1 ++ [encB (uOf (ns.getD i 0)) (par (wst ns first T i).2.2.1 (wst ns first T i).2.2.2)], ((wst ns first T i).2.1, tbB (wst ns first T i).2.2 (uOf (ns.getD i 0)))) := if_neg h
theorem uOf_getD {ns : List Int} (hn : ∀ z ∈ ns, z.natAbs < 10 ^ 55) (i : Nat) : ((uOf (ns.getD i 0) : Nat) : Int) ≤ 10 ^ 56 := uOf_le (by
  rw [List.getD_eq_getElem?_getD]
  cases e : ns[i]? with
  | none => decide
  | some z => exact hn z (List.mem_of_getElem? e))
theorem wst_flat {ns : List Int} {first : Nat} {T : Tb × Tb} (hn : ∀ z ∈ ns, z.natAbs < 10 ^ 55) (h0 : TbOk (10 ^ 58) T.1) (h1 : TbOk (10 ^ 58) T.2) : ∀ i : Nat, i ≤ 64 → (wst ns first T i).1.flatten.length ≤ 1000 * i
  | 0, _ => Nat.zero_le _
  | i + 1, hi => by
    have ih := wst_flat (first := first) hn h0 h1 i (by omega)
    obtain ⟨a, b⟩ := wst_ok (first := first) hn h0 h1 i (by omega)
    have hu := nb_small (uOf_getD hn i)
    have bnd : (10 ^ 58 + (i : Int) * 10 ^ 56) < 10 ^ 60 := by omega
    have pa := par_leG a bnd
    have pb := par_leG b bnd
    by_cases c : i < first
    · rw [wst_lo c]
      have e := encB_len (uOf (ns.getD i 0)) (par (wst ns first T i).2.1.1 (wst ns first T i).2.1.2)
      rw [List.flatten_append, List.length_append, List.flatten_cons, List.flatten_nil, List.append_nil]
      omega
    · rw [wst_hi c]
      have e := encB_len (uOf (ns.getD i 0)) (par (wst ns first T i).2.2.1 (wst ns first T i).2.2.2)
      rw [List.flatten_append, List.length_append, List.flatten_cons, List.flatten_nil, List.append_nil]
      omega
theorem par_cond {m : Int} {t : Tb} (h : TbOk m t) {i : Nat} (hi : i ≤ par t.1 t.2) : (t.2 * 2 ^ i < t.1 ↔ i < par t.1 t.2) := by
  obtain ⟨h1, h2⟩ := par_spec h.1 h.2.2.1
  constructor
  · intro c
    by_cases e : i = par t.1 t.2
    · subst e
      omega
    · omega
  · exact h1 i
theorem sm_tb {K : PySem.W.Frag} {H : Hp} {a b : Addr} {t : Tb} (h : TbV K H a t) (g : TbV K H b t) : SmV K H 1 (.ref a) (.ref b) :=
  .inr (.inr ⟨a, b, _, _, rfl, rfl, h, g, rfl, fun i x y e1 e2 => by
    rw [e1] at e2
    have e := Option.some.inj e2
    subst e
    rcases i with _ | _ | i
    · cases e1; exact ⟨rfl, rfl⟩
    · cases e1; exact ⟨rfl, rfl⟩
    · simp at e1⟩)
theorem sm_tbs {K : PySem.W.Frag} {H : Hp} {a b : Addr} {T : Tb × Tb} (h : TbsV K H a T) (g : TbsV K H b T) : SmV K H 2 (.ref a) (.ref b) := by
  obtain ⟨r0, r1, h0, h1, h2⟩ := h
  obtain ⟨s0, s1, g0, g1, g2⟩ := g
  refine .inr (.inr ⟨a, b, _, _, rfl, rfl, h0, g0, rfl, fun i x y e1 e2 => ?_⟩)
  rcases i with _ | _ | i
  · cases e1; cases e2; exact sm_tb h1 g1
  · cases e1; cases e2; exact sm_tb h2 g2
  · simp at e1
end Z
namespace Z
open PySem PySem.Spec PyProof.Rows L2
open SX (S S_len S_cat S_inj)
section
open PySem.NumText PySem.Calls Hx
def IsB (c : Nat) : Prop := c = 48 ∨ c = 49
theorem IsB.hex {c : Nat} (h : IsB c) : IsHex c := by
  unfold IsB at h
  unfold IsHex
  omega
theorem hv_b {c : Nat} (h : IsB c) : hv c = c - 48 := by
  unfold IsB at h
  unfold hv
  rw [if_pos (by omega)]
theorem step_b {ds : Array Nat} {b : Bool} {c : Nat} (h : IsB c) : PySem.NumText.step 2 (ds, b) c = some (ds.push (c - 48), true) := by
  have hr := hex_rng h.hex
  unfold PySem.NumText.step
  rw [if_neg (by rw [beq_iff_eq]; exact hr.2.2), digit_hex h.hex, hv_b h]
  exact if_pos (by unfold IsB at h; omega)
theorem foldl_b : ∀ (cs : List Nat) (ds : Array Nat), (∀ c ∈ cs, IsB c) → cs.foldlM (PySem.NumText.step 2) (ds, true) = some (cs.foldl (fun acc c => acc.push (c - 48)) ds, true)
  | [], _, _ => rfl
  | c :: cs, ds, h => by
    rw [List.foldlM_cons, step_b (h c (List.mem_cons_self ..))]
    show cs.foldlM (PySem.NumText.step 2) (ds.push (c - 48), true) = _
    exact foldl_b cs (ds.push (c - 48)) fun d hd => h d (List.mem_cons_of_mem _ hd)
theorem digits_b {cs : List Nat} (h : ∀ c ∈ cs, IsB c) (hne : cs ≠ []) : digits? 2 cs = some (cs.foldl (fun acc c => acc.push (c - 48)) #[]) := by
  cases cs with
  | nil => exact absurd rfl hne
  | cons c cs =>
    unfold digits?
    rw [List.foldlM_cons, step_b (h c (List.mem_cons_self ..))]
    show (cs.foldlM (PySem.NumText.step 2) ((#[] : Array Nat).push (c - 48), true)).bind _ = _
    rw [foldl_b cs _ fun d hd => h d (List.mem_cons_of_mem _ hd)]
    rfl
theorem push_b : ∀ (cs : List Nat) (ds : Array Nat), (cs.foldl (fun acc c => acc.push (c - 48)) ds).foldl (fun acc d => acc * 2 + d) 0 = cs.foldl (fun a c => a * 2 + (c - 48)) (ds.foldl (fun acc d => acc * 2 + d) 0)
  | [], _ => rfl
  | c :: cs, ds => by
    rw [List.foldl_cons, push_b cs (ds.push (c - 48)), List.foldl_cons]
    congr 1
    simp
theorem based_b : ∀ {cs : List Nat}, (∀ c ∈ cs, IsB c) → based 2 cs = (2, false, cs)
  | [], _ => rfl
  | [a], h => by
    rcases h a List.mem_cons_self with rfl | rfl <;> rfl
  | a :: c :: r, h => by
    rcases h a List.mem_cons_self with rfl | rfl <;> rcases h c (List.mem_cons_of_mem _ List.mem_cons_self) with rfl | rfl <;> rfl
theorem valB_two (l : List Nat) : l.foldl (fun a c => a * 2 + (c - 48)) 0 = valB l := by
  unfold valB
  congr 1
  funext a c
  rw [Nat.mul_comm]
theorem read_b {cs : List Nat} (h : ∀ c ∈ cs, IsB c) (hne : cs ≠ []) : (int_private% "readNumeral") 0 2 cs = (int_private% "Numeral.value") ((valB cs : Nat) : Int) := by
  have hr : ∀ c ∈ cs.reverse, IsB c := fun c hc => h c (List.mem_reverse.mp hc)
  refine (readNumeral_eq 0 2 cs).trans ?_
  rw [dropB (fun c hc => (h c hc).hex), signH (fun c hc => (h c hc).hex)]
  show judge 0 false (based 2 cs).1 (based 2 cs).2.1 (digits? (based 2 cs).1 (((based 2 cs).2.2.reverse.dropWhile blank).reverse)) = _
  rw [based_b h]
  show judge 0 false 2 false (digits? 2 ((cs.reverse.dropWhile blank).reverse)) = _
  rw [dropB (fun c hc => (hr c hc).hex), List.reverse_reverse, digits_b h hne]
  show (int_private% "Numeral.value") (((cs.foldl (fun acc c => acc.push (c - 48)) (#[] : Array Nat)).foldl (fun acc d => acc * 2 + d) 0 : Nat) : Int) = _
  have z : (#[] : Array Nat).foldl (fun acc d => acc * 2 + d) 0 = 0 := by first | rfl | simp
  rw [push_b, z, valB_two]
set_option maxHeartbeats 4000000 in
theorem gives_b {x : PySem.Str} {u t : Tok} (hl : x.length ≤ 640) (h : ∀ c ∈ x.cps.toList, IsB c) (hne : x.cps.toList ≠ []) :
    Gives (Builtin.«int.__new__» ⟨[.type "int", .str x u, .int 2 t], []⟩) (.int ((valB x.cps.toList : Nat) : Int)) :=
  .of_wp fun M A E s Q hQ => by
    obtain ⟨hp, g, d, tk, os⟩ := s
    have f1 := F.conv_sub_int
    have f2 := F.madeHere_int
    have f6 : typeOf (.str x u) = pure (.type "str") := rfl
    obtain ⟨e1, e2⟩ := seen_hex (fun c hc => (h c hc).hex)
    have hs : (numSeenOf x).length ≤ 640 := by
      rw [e2, Array.length_toList]
      exact hl
    have hr : (int_private% "readNumeral") 0 2 (numSeenOf x) = (int_private% "Numeral.value") ((valB x.cps.toList : Nat) : Int) := by
      rw [e2]
      exact read_b h hne
    have ha : ((numSeenOf x).length == (numTextOf x).length) = true := by
      rw [e1, e2]
      exact beq_self_eq_true _
    have hk := Hid.mk (And.intro hs (And.intro hr ha))
    clear hs hr ha e1 e2 hl hne h
    repeat (any_goals (first
      | assumption
      | ((with_reducible show wpAny _ _ ((int_private% "intFromText") _ _ _) _ _ _); refine wp_textB hk.out.1 hk.out.2.1 hk.out.2.2 ?_)
      | wp_step))
    all_goals first | exact ⟨_, rfl, hQ⟩ | skip
theorem call_b {prog : Program} {w : World} {A : Around} {E : Value → Shared → Prop} {s : Shared} {Q : Value → Shared → Prop} {x : PySem.Str} {u t : Tok} (hl : x.length ≤ 640) (h : ∀ c ∈ x.cps.toList, IsB c) (hne : x.cps.toList ≠ [])
    (hQ : Q (.int ((valB x.cps.toList : Nat) : Int) s.toks) { s with toks := s.toks + 1 }) : wpAny (model prog w) A (call (.type "int") [.str x u, .int 2 t]) Q E s :=
  callType_new F.called_int F.newNe_int (typeCall_int_2 _ _) (newCall_int_2 _ _) (fun obj => F.initArgs_range_2 obj _ _) F.entry_int_new (gives_b hl h hne).meets (show (Made.int ((valB x.cps.toList : Nat) : Int)).post _ s from ⟨rfl, hQ⟩)
end
def rIntB : List V → Hp → VK → Prop := fun xs H Q => ∃ l : List Nat, xs = [.str (S l), .int 2] ∧ l ≠ [] ∧ l.length ≤ 640 ∧ (∀ c ∈ l, IsB c) ∧ Q (.int ((valB l : Nat) : Int)) H
theorem call_intB {X : Cx} : CallR X (.type "int") rIntB := by
  intro pins s σ H xs us Q I r h
  obtain ⟨l, rfl, hne, hl, hx, q⟩ := h
  obtain ⟨u, w', rfl, r1, r2⟩ := vals2 r
  obtain ⟨t1, rfl⟩ := r1
  obtain ⟨t2, rfl⟩ := r2
  exact call_b (x := S l) (by rw [S_len]; exact hl) hx hne ⟨.int ((valB l : Nat) : Int), H, I.tok _, ⟨_, rfl⟩, q⟩
def onesL : List Nat → Nat
  | [] => 0
  | c :: r => if c = 48 then 0 else onesL r + 1
theorem onesL_le : ∀ m : List Nat, onesL m ≤ m.length
  | [] => Nat.le_refl _
  | c :: r => by
    unfold onesL
    split
    · exact Nat.zero_le _
    · exact Nat.succ_le_succ (onesL_le r)
theorem onesL_lt : ∀ (m : List Nat) (i : Nat), i < onesL m → m[i]? ≠ some 48
  | [], i, h => absurd h (Nat.not_lt_zero _)
  | c :: r, i, h => by
    unfold onesL at h
    split at h
    · exact absurd h (Nat.not_lt_zero _)
    · rename_i e
      rcases i with _ | i
      · intro z
        exact e (Option.some.inj z)
      · exact onesL_lt r i (by omega)
theorem onesL_at : ∀ m : List Nat, onesL m < m.length → m[onesL m]? = some 48
  | [], h => absurd h (Nat.not_lt_zero _)
  | c :: r, h => by
    by_cases e : c = 48
    · have z : onesL (c :: r) = 0 := if_pos e
      rw [z, e]
      rfl
    · have z : onesL (c :: r) = onesL r + 1 := if_neg e
      rw [z] at h ⊢
      exact onesL_at r (by simpa using h)
theorem onesL_rep (n : Nat) (r : List Nat) : onesL (List.replicate n 49 ++ 48 :: r) = n := by
  induction n with
  | zero => rfl
  | succ n ih =>
    show (if (49 : Nat) = 48 then 0 else onesL (List.replicate n 49 ++ 48 :: r) + 1) = n + 1
    rw [if_neg (by decide), ih]
def fzI (l : List Nat) (pl : Nat) : Int := if pl + onesL (l.drop pl) < l.length then ((pl + onesL (l.drop pl) : Nat) : Int) else -1
theorem S_get (l : List Nat) (v : Nat) (hv : v < l.length) : (S l).cps.getD v 0 = 48 ↔ l[v]? = some 48 :=
  ⟨fun h => PySem.StrLaws.getElem?_of_getD (x := S l) (by rw [S_len]; exact hv) h, fun h => PySem.StrLaws.getD_of_getElem? (x := S l) h⟩
theorem find_S (l : List Nat) (pl : Nat) (hpl : pl ≤ l.length) : Txt.find3 (S l) (S [48]) (pl : Int) = fzI l pl := by
  have fi : fromIndex (S l).length (pl : Int) = pl := by
    unfold fromIndex
    omega
  have hd : ∀ v, pl ≤ v → l[v]? = (l.drop pl)[v - pl]? := fun v hv => by rw [List.getElem?_drop]; congr 1; omega
  have hol := onesL_le (l.drop pl)
  rw [List.length_drop] at hol
  rcases PySem.StrLaws.find3_spec (S l) 48 (pl : Int) with ⟨e, hn⟩ | ⟨k, e, h1, h2, h3, h4⟩
  · rw [fi] at hn
    have hlt : ¬ pl + onesL (l.drop pl) < l.length := fun hlt => by
      have a := onesL_at (l.drop pl) (by rw [List.length_drop]; omega)
      refine hn (pl + onesL (l.drop pl)) (by omega) (by rw [S_len]; exact hlt) ((S_get l _ hlt).mpr ?_)
      rw [hd _ (by omega), show pl + onesL (l.drop pl) - pl = onesL (l.drop pl) by omega]
      exact a
    unfold fzI
    rw [if_neg hlt]
    exact e
  · rw [fi] at h1 h4
    rw [S_len] at h2
    have hk := (S_get l k h2).mp h3
    rw [hd k h1] at hk
    have a1 : ¬ k - pl < onesL (l.drop pl) := fun z => onesL_lt _ _ z hk
    have a2 : ¬ onesL (l.drop pl) < k - pl := fun z => by
      have a := onesL_at (l.drop pl) (by rw [List.length_drop]; omega)
      refine h4 (pl + onesL (l.drop pl)) (by omega) (by omega) ((S_get l _ (by omega)).mpr ?_)
      rw [hd _ (by omega), show pl + onesL (l.drop pl) - pl = onesL (l.drop pl) by omega]
      exact a
    have e2 : k = pl + onesL (l.drop pl) := by omega
    unfold fzI
    rw [if_pos (by omega), ← e2]
    exact e
def rdC (l : List Nat) (pl k : Nat) : Option (Nat × Nat) :=
  if pl + onesL (l.drop pl) < l.length then
    if l.length < pl + onesL (l.drop pl) + 1 + (if onesL (l.drop pl) < 20 then k else onesL (l.drop pl) - 19) then none
    else if onesL (l.drop pl) < 20 then some (onesL (l.drop pl) * 2 ^ k + valB ((l.drop (pl + onesL (l.drop pl) + 1)).take k), pl + onesL (l.drop pl) + 1 + k)
    else if (l.drop (pl + onesL (l.drop pl) + 1))[0]? = some 48 ∨ valB ((l.drop (pl + onesL (l.drop pl) + 1)).take (onesL (l.drop pl) - 19)) / 2 ^ k < 20 then none
    else some (valB ((l.drop (pl + onesL (l.drop pl) + 1)).take (onesL (l.drop pl) - 19)), pl + onesL (l.drop pl) + 1 + (onesL (l.drop pl) - 19))
  else none
theorem binB_head {u : Nat} (h : u ≠ 0) : (binB u)[0]? = some 49 := by
  unfold binB
  obtain ⟨m, hm⟩ : ∃ m, nb u = m + 1 := ⟨nb u - 1, by have := nb_pos u; omega⟩
  have h1 := nb_le h
  have h2 := nb_lt u
  rw [hm] at h1 h2 ⊢
  rw [lowB_front]
  have e : u / 2 ^ m = 1 := by
    have h3 : 2 ^ m ≤ u := h1
    rw [Nat.pow_succ] at h2
    have a := (Nat.le_div_iff_mul_le (Nat.two_pow_pos m)).mpr (show 1 * 2 ^ m ≤ u by omega)
    have b := (Nat.div_lt_iff_lt_mul (Nat.two_pow_pos m)).mpr (show u < 2 * 2 ^ m by omega)
    omega
  rw [e]
  rfl
theorem rdC_good (pre post : List Nat) (u k : Nat) : rdC (pre ++ (encB u k ++ post)) pre.length k = some (u, pre.length + (encB u k).length) := by
  have hd : (pre ++ (encB u k ++ post)).drop pre.length = encB u k ++ post := List.drop_left
  have hd2 : ∀ n, (pre ++ (encB u k ++ post)).drop (pre.length + n) = (encB u k ++ post).drop n := fun n => by rw [← List.drop_drop, hd]
  have hl : (pre ++ (encB u k ++ post)).length = pre.length + ((encB u k).length + post.length) := by rw [List.length_append, List.length_append]
  by_cases c : u / 2 ^ k < 20
  · have e : encB u k = List.replicate (u / 2 ^ k) 49 ++ 48 :: lowB u k := by
      unfold encB
      rw [if_pos c, List.append_assoc]
      rfl
    have el : (encB u k).length = u / 2 ^ k + 1 + k := by
      rw [e, List.length_append, List.length_replicate, List.length_cons, lowB_length]
      omega
    have o : onesL (encB u k ++ post) = u / 2 ^ k := by
      rw [e, List.append_assoc]
      exact onesL_rep _ _
    have dd : ((pre ++ (encB u k ++ post)).drop (pre.length + u / 2 ^ k + 1)).take k = lowB u k := by
      rw [Nat.add_assoc, hd2, e, List.append_assoc, List.cons_append]
      rw [show u / 2 ^ k + 1 = (List.replicate (u / 2 ^ k) 49).length + 1 by rw [List.length_replicate]]
      rw [← List.drop_drop, List.drop_left]
      show (lowB u k ++ post).take k = lowB u k
      exact List.take_left' (lowB_length u k)
    unfold rdC
    rw [hd, o, if_pos (by rw [hl, el]; omega), if_pos c, if_neg (by rw [hl, el]; omega), if_pos c, dd, valB_lowB, el]
    rw [Nat.mul_comm, Nat.div_add_mod]
    congr 2
    omega
  · have hu : u ≠ 0 := fun z => c (by rw [z, Nat.zero_div]; decide)
    have hnb := nb_pos u
    have e : encB u k = List.replicate (19 + nb u) 49 ++ 48 :: binB u := by
      unfold encB
      rw [if_neg c, List.append_assoc]
      rfl
    have el : (encB u k).length = 19 + nb u + 1 + nb u := by
      rw [e, List.length_append, List.length_replicate, List.length_cons, binB_length]
      omega
    have o : onesL (encB u k ++ post) = 19 + nb u := by
      rw [e, List.append_assoc]
      exact onesL_rep _ _
    have dd : (pre ++ (encB u k ++ post)).drop (pre.length + (19 + nb u) + 1) = binB u ++ post := by
      rw [Nat.add_assoc, hd2, e, List.append_assoc, List.cons_append]
      rw [show 19 + nb u + 1 = (List.replicate (19 + nb u) 49).length + 1 by rw [List.length_replicate]]
      rw [← List.drop_drop, List.drop_left]
      rfl
    have tk : (binB u ++ post).take (nb u) = binB u := List.take_left' (binB_length u)
    have vb : valB (binB u) = u := by
      unfold binB
      rw [valB_lowB, Nat.mod_eq_of_lt (nb_lt u)]
    have hh : (binB u ++ post)[0]? = some 49 := by
      rw [List.getElem?_append_left (by rw [binB_length]; omega)]
      exact binB_head hu
    unfold rdC
    rw [hd, o, if_pos (by rw [hl, el]; omega), if_neg (show ¬ 19 + nb u < 20 by omega), show 19 + nb u - 19 = nb u by omega, if_neg (by rw [hl, el]; omega), if_neg (show ¬ 19 + nb u < 20 by omega), dd, tk, vb, hh, if_neg, el]
    · congr 2
      omega
    · intro z
      rcases z with z | z
      · cases z
      · exact c z
def unU (u : Nat) : Int := if u % 2 = 0 then ((u / 2 : Nat) : Int) else -((u / 2 : Nat) : Int) - 1
theorem unU_uOf (n : Int) : unU (uOf n) = n := by
  have e := uOf_eq n
  unfold unU
  unfold codeU at e
  split at e <;> split <;> omega
theorem tw_all (p : Nat → Bool) : ∀ l : List Nat, (∀ c ∈ l, p c = true) → l.takeWhile p = l
  | [], _ => rfl
  | c :: r, h => by
    rw [List.takeWhile_cons, if_pos (h c List.mem_cons_self), tw_all p r fun d hd => h d (List.mem_cons_of_mem _ hd)]
theorem strip_B {l : List Nat} (h : ∀ c ∈ l, IsB c) : Txt.stripChars (S l) (S [48, 49]) = S [] := by
  have hc : ∀ c ∈ l, (S [48, 49]).cps.contains c = true := fun c hc => by
    rcases h c hc with e | e
    · rw [e]; decide +kernel
    · rw [e]; decide +kernel
  have tw : l.takeWhile (S [48, 49]).cps.contains = l := tw_all _ l hc
  have lo : stripLo (S [48, 49]).cps.contains true (S l) = l.length := by
    unfold stripLo
    rw [if_pos rfl]
    show (l.takeWhile _).length = _
    rw [tw]
  have hi : stripHi (S [48, 49]).cps.contains true (S l) l.length = l.length := by
    unfold stripHi
    rw [if_pos rfl]
    show (S l).length - ((l.drop l.length).reverse.takeWhile _).length = _
    rw [List.drop_length, S_len]
    rfl
  unfold Txt.stripChars Txt.stripBy
  cases hs : stripSame (S [48, 49]).cps.contains true true (S l) with
  | true =>
    rw [if_pos rfl]
    unfold stripSame at hs
    rw [lo, Bool.and_eq_true, beq_iff_eq] at hs
    rw [List.length_eq_zero_iff.mp hs.1]
  | false =>
    rw [if_neg Bool.false_ne_true]
    unfold stripped
    rw [lo, hi]
    refine TL.ext_tl ?_
    rw [TL.tl_strSub]
    simp
def rFind3 : V → List V → Hp → VK → Prop := fun x xs H Q => ∃ (a b : Str) (i : Int), x = .str a ∧ xs = [.str b, .int i] ∧ Q (.int (Txt.find3 a b i)) H
theorem mt_find3K {X : Cx} : MtR X "str.find" rFind3 := mt_find3
def rStripC : V → List V → Hp → VK → Prop := fun x xs H Q => ∃ a b, x = .str a ∧ xs = [.str b] ∧ a.length ≤ sizeLine ∧ Q (.str (Txt.stripChars a b)) H
theorem mt_stripK {X : Cx} : MtR X "str.strip" rStripC := mt_stripChars
section
variable {H : Hp} {Q : VK}
theorem rd_find {l : List Nat} {x : Str} {pl : Nat} (e : x = S [48]) (hpl : pl ≤ l.length) (h : Q (.int (fzI l pl)) H) : rFind3 (.str (S l)) [.str x, .int (pl : Int)] H Q := ⟨S l, x, (pl : Int), rfl, rfl, by rw [e, find_S l pl hpl]; exact h⟩
theorem rd_strip {l : List Nat} {x : Str} (e : x = S [48, 49]) (hl : l.length ≤ 16777216) (hb : ∀ c ∈ l, IsB c) (h : Q (.str (S [])) H) : rStripC (.str (S l)) [.str x] H Q := ⟨S l, x, rfl, rfl, by rw [S_len]; exact hl, by rw [e, strip_B hb]; exact h⟩
theorem rd_intB {l : List Nat} (hne : l ≠ []) (hl : l.length ≤ 640) (hb : ∀ c ∈ l, IsB c) (h : Q (.int ((valB l : Nat) : Int)) H) : rIntB [.str (S l), .int 2] H Q := ⟨l, rfl, hne, hl, hb, h⟩
theorem rd_slSM {l : List Nat} {a b : Nat} (ha : a ≤ l.length) (hb : b ≤ l.length) (hl : l.length ≤ 16777216) (h : Q (.str (S ((l.drop a).take (b - a)))) H) : C8.rSlX (.str (S l)) (some (a : Int)) (some (b : Int)) H Q := by
  refine ⟨S l, rfl, by rw [S_len]; exact hl, ?_⟩
  rw [← C8.cutS_slice]
  unfold cutS
  rw [S_len, HT.sIx_nat, HT.sIx_nat, Nat.min_eq_left ha, Nat.min_eq_left hb]
  exact h
end
theorem valB_zero (l : List Nat) : valB (48 :: l) = valB l := rfl
def spRdC : Sp := fun vs H Q _ => ∃ (l : List Nat) (pl k : Nat), vs = [.str (S l), .int (pl : Int), .int (k : Int)] ∧ (∀ c ∈ l, IsB c) ∧ l.length ≤ 1000000 ∧ pl ≤ l.length ∧ k ≤ 600 ∧ onesL (l.drop pl) ≤ 600 ∧ (rdC l pl k = none → Q .non H) ∧
  ∀ u e, rdC l pl k = some (u, e) → ∀ p, H p = none → Q (.ref p) (upd H p (.tup [.int ((u : Nat) : Int), .int ((e : Nat) : Int)]))
theorem use_rdC {l : List Nat} {pl k u e : Nat} {H : Hp} {Q : VK} {E : XK} (h1 : ∀ c ∈ l, IsB c) (h2 : l.length ≤ 1000000) (h3 : pl ≤ l.length) (h4 : k ≤ 600) (h5 : onesL (l.drop pl) ≤ 600) (h6 : rdC l pl k = some (u, e))
    (q : ∀ p, H p = none → Q (.ref p) (upd H p (.tup [.int ((u : Nat) : Int), .int ((e : Nat) : Int)]))) : spRdC ([.str (S l), .int (pl : Int), .int (k : Int)] ++ []) H Q E :=
  ⟨l, pl, k, rfl, h1, h2, h3, h4, h5, fun z => (by rw [h6] at z; cases z), fun u' e' z => (by rw [h6] at z; cases z; exact q)⟩
def spNumW : Sp := fun vs H Q _ => ∃ u : Nat, vs = [.int (u : Int)] ∧ Q (.int (unU u)) H
theorem use_numW {u : Nat} {H : Hp} {Q : VK} {E : XK} (q : Q (.int (unU u)) H) : spNumW ([.int (u : Int)] ++ []) H Q E := ⟨u, rfl, q⟩
theorem wst_bin (ns : List Int) (first : Nat) (T : Tb × Tb) : ∀ i, ∀ c ∈ (wst ns first T i).1.flatten, IsB c
  | 0, c, h => absurd h List.not_mem_nil
  | i + 1, c, h => by
    by_cases d : i < first
    · rw [wst_lo d, List.flatten_append] at h
      rcases List.mem_append.mp h with h | h
      · exact wst_bin ns first T i c h
      · rw [List.flatten_cons, List.flatten_nil, List.append_nil] at h
        exact encB_bin _ _ c h
    · rw [wst_hi d, List.flatten_append] at h
      rcases List.mem_append.mp h with h | h
      · exact wst_bin ns first T i c h
      · rw [List.flatten_cons, List.flatten_nil, List.append_nil] at h
        exact encB_bin _ _ c h
/-- what stands behind the i-th word -/
theorem wst_split (ns : List Int) (first : Nat) (T : Tb × Tb) (i : Nat) : ∀ n, i ≤ n → ∃ post, (wst ns first T n).1.flatten = (wst ns first T i).1.flatten ++ post
  | 0, h => by
    obtain rfl : i = 0 := by omega
    exact ⟨[], (List.append_nil _).symm⟩
  | n + 1, h => by
    by_cases e : i = n + 1
    · subst e
      exact ⟨[], (List.append_nil _).symm⟩
    · obtain ⟨post, hp⟩ := wst_split ns first T i n (by omega)
      by_cases d : n < first
      · rw [wst_lo d, List.flatten_append, hp, List.append_assoc]
        exact ⟨_, rfl⟩
      · rw [wst_hi d, List.flatten_append, hp, List.append_assoc]
        exact ⟨_, rfl⟩
theorem ones_enc (u k : Nat) (post : List Nat) (h : nb u ≤ 200) : onesL (encB u k ++ post) ≤ 600 := by
  unfold encB
  split
  · rw [List.append_assoc, List.append_assoc]
    show onesL (List.replicate (u / 2 ^ k) 49 ++ 48 :: _) ≤ 600
    rw [onesL_rep]
    omega
  · rw [List.append_assoc, List.append_assoc]
    show onesL (List.replicate (19 + nb u) 49 ++ 48 :: _) ≤ 600
    rw [onesL_rep]
    omega
theorem rd_notBl {a : Bool} {H : Hp} {Q : VK} (h : Q (.bl (!decide (a = true))) H) : rNotB (.bl a) (.bl true) H Q := by
  first
    | exact ⟨a, true, rfl, rfl, h⟩
    | (refine ⟨_, _, rfl, rfl, ?_⟩; cases a <;> exact h)
end Z
namespace Z
open PySem PySem.Spec PyProof.Rows L2
open SX (S S_len S_cat S_inj)
def bitsOf (z : Str) : Bool := decide (V.str (Txt.stripChars z (S [48, 49])) = V.str (Str.ofString ""))
inductive BitR (H : Hp) : V → Bool → Prop where
  | str {z : Str} (h : z.length ≤ 16000000) : BitR H (.str z) (bitsOf z)
  | non : BitR H .non false
  | int {i : Int} : BitR H (.int i) false
  | lst {a : Addr} {xs : List V} (h : H a = some (.lst xs)) : BitR H (.ref a) false
def layB (ln : V) (b : Bool) (lv st : V) : Bool := (inI ln 1 64 && b) && (inI lv 0 5 && inI st 1 64)
def frB (v0 ln : V) (b : Bool) (lv st mk : V) (c : Bool) : Bool := decide (v0 = V.str (Str.ofString "frame")) && (layB ln b lv st && (inI mk 0 9972 && c))
inductive RecR (H : Hp) : V → Bool → Prop where
  | flat {x : V} (h : scalarV x = true) : RecR H x false
  | lst {a : Addr} {xs : List V} (h : H a = some (.lst xs)) : RecR H (.ref a) false
  | tupn {a : Addr} {xs : List V} (h : H a = some (.tup xs)) (n : xs.length ≠ 2) (m : xs.length ≠ 7) : RecR H (.ref a) false
  | st {a : Addr} {s : Str} {v : V} {b : Bool} (h : H a = some (.tup [.str s, v])) (hv : TSR H v b) : RecR H (.ref a) (decide (V.str s = V.str (Str.ofString "state")) && b)
  | fr {a : Addr} {v0 ln jt lv st mk bt : V} {b c : Bool} (h : H a = some (.tup [v0, ln, jt, lv, st, mk, bt])) (h0 : scalarV v0 = true) (hl : TyV H ln) (hj : JR H jt b) (h3 : TyV H lv) (h4 : TyV H st) (h5 : TyV H mk) (hb : BitR H bt c) : RecR H (.ref a) (frB v0 ln b lv st mk c)
section
variable {H H' : Hp} {x : V} {b : Bool}
theorem tyv_same (s : Same H H') (h : TyV H x) : TyV H' x := by
  cases x with
  | ref a =>
    rcases h with ⟨xs, h⟩ | ⟨xs, h⟩
    · exact .inl ⟨xs, s _ _ h⟩
    · exact .inr ⟨xs, s _ _ h⟩
  | _ => exact h
theorem JR.same (s : Same H H') (h : JR H x b) : JR H' x b := by
  cases h with
  | flat h => exact .flat h
  | lst h => exact .lst (s _ _ h)
  | tupn h n => exact .tupn (s _ _ h) n
  | tup2 h hu hv => exact .tup2 (s _ _ h) (tyv_same s hu) (tyv_same s hv)
theorem TR.same (s : Same H H') (h : TR H x b) : TR H' x b := by
  cases h with
  | flat h => exact .flat h
  | lst h => exact .lst (s _ _ h)
  | tupn h n => exact .tupn (s _ _ h) n
  | tup2 h hu hv => exact .tup2 (s _ _ h) (tyv_same s hu) (tyv_same s hv)
theorem TSR.same (s : Same H H') (h : TSR H x b) : TSR H' x b := by
  cases h with
  | flat h => exact .flat h
  | lst h => exact .lst (s _ _ h)
  | tupn h n => exact .tupn (s _ _ h) n
  | tup2 h hu hv => exact .tup2 (s _ _ h) (hu.same s) (hv.same s)
theorem BitR.same (s : Same H H') (h : BitR H x b) : BitR H' x b := by
  cases h with
  | str h => exact .str h
  | non => exact .non
  | int => exact .int
  | lst h => exact .lst (s _ _ h)
theorem RecR.same (s : Same H H') (h : RecR H x b) : RecR H' x b := by
  cases h with
  | flat h => exact .flat h
  | lst h => exact .lst (s _ _ h)
  | tupn h n m => exact .tupn (s _ _ h) n m
  | st h hv => exact .st (s _ _ h) (hv.same s)
  | fr h h0 hl hj h3 h4 h5 hb => exact .fr (s _ _ h) h0 (tyv_same s hl) (hj.same s) (tyv_same s h3) (tyv_same s h4) (tyv_same s h5) (hb.same s)
end
def spBit : Sp := fun vs H Q _ => ∃ x b, vs = [x] ∧ BitR H x b ∧ Q (.bl b) H
def spLay : Sp := fun vs H Q _ => ∃ (a : Addr) (ln jt lv st : V) (b : Bool), vs = [.ref a] ∧ H a = some (.tup [ln, jt, lv, st]) ∧ TyV H ln ∧ JR H jt b ∧ TyV H lv ∧ TyV H st ∧ Q (.bl (layB ln b lv st)) H
def spRec : Sp := fun vs H Q _ => ∃ x b, vs = [x] ∧ RecR H x b ∧ ∀ H', Same H H' → Q (.bl b) H'
theorem use_bit {x : V} {b : Bool} {H : Hp} {Q : VK} {E : XK} (h : BitR H x b) (q : Q (.bl b) H) : spBit ([x] ++ []) H Q E := ⟨x, b, rfl, h, q⟩
theorem use_lay {a : Addr} {ln jt lv st : V} {b : Bool} {H : Hp} {Q : VK} {E : XK} (h : H a = some (.tup [ln, jt, lv, st])) (hl : TyV H ln) (hj : JR H jt b) (h3 : TyV H lv) (h4 : TyV H st) (q : Q (.bl (layB ln b lv st)) H) : spLay ([.ref a] ++ []) H Q E := ⟨a, ln, jt, lv, st, b, rfl, h, hl, hj, h3, h4, q⟩
theorem use_rec {x : V} {b : Bool} {H : Hp} {Q : VK} {E : XK} (h : RecR H x b) (q : ∀ H', Same H H' → Q (.bl b) H') : spRec ([x] ++ []) H Q E := ⟨x, b, rfl, h, q⟩
/-- is_state by itself: of a state's form its truth, of all else False -/
inductive StR (H : Hp) : V → Bool → Prop where
  | flat {x : V} (h : scalarV x = true) : StR H x false
  | lst {a : Addr} {xs : List V} (h : H a = some (.lst xs)) : StR H (.ref a) false
  | tupn {a : Addr} {xs : List V} (h : H a = some (.tup xs)) (n : xs.length ≠ 2) : StR H (.ref a) false
  | st {a : Addr} {s : Str} {v : V} {b : Bool} (h : H a = some (.tup [.str s, v])) (hv : TSR H v b) : StR H (.ref a) (decide (V.str s = V.str (Str.ofString "state")) && b)
def spSt : Sp := fun vs H Q _ => ∃ x b, vs = [x] ∧ StR H x b ∧ Q (.bl b) H
theorem use_st {x : V} {b : Bool} {H : Hp} {Q : VK} {E : XK} (h : StR H x b) (q : Q (.bl b) H) : spSt ([x] ++ []) H Q E := ⟨x, b, rfl, h, q⟩
inductive FrR (H : Hp) : V → Bool → Prop where
  | flat {x : V} (h : scalarV x = true) : FrR H x false
  | lst {a : Addr} {xs : List V} (h : H a = some (.lst xs)) : FrR H (.ref a) false
  | tupn {a : Addr} {xs : List V} (h : H a = some (.tup xs)) (n : xs.length ≠ 7) : FrR H (.ref a) false
  | fr {a : Addr} {v0 ln jt lv st mk bt : V} {b c : Bool} (h : H a = some (.tup [v0, ln, jt, lv, st, mk, bt])) (h0 : scalarV v0 = true) (hl : TyV H ln) (hj : JR H jt b) (h3 : TyV H lv) (h4 : TyV H st) (h5 : TyV H mk) (hb : BitR H bt c) : FrR H (.ref a) (frB v0 ln b lv st mk c)
def spFr : Sp := fun vs H Q _ => ∃ x b, vs = [x] ∧ FrR H x b ∧ ∀ H', Same H H' → Q (.bl b) H'
theorem use_fr {x : V} {b : Bool} {H : Hp} {Q : VK} {E : XK} (h : FrR H x b) (q : ∀ H', Same H H' → Q (.bl b) H') : spFr ([x] ++ []) H Q E := ⟨x, b, rfl, h, q⟩
theorem scal_str {x : V} {s : Str} (h : scalarV x = true) : scal x (.str s) = true := by
  cases x <;> first | rfl | exact Bool.noConfusion h
theorem rd_slTp {K : PySem.W.Frag} {H : Hp} {Q : VK} {a : Addr} {xs : List V} {lo hi : Option Int} {ys : List V} (h : SqT K H a xs) (e : cutV xs lo hi = ys) (n : ¬ (HT.sIx xs.length 0 lo = 0 ∧ HT.sIx xs.length xs.length hi = xs.length)) (q : ∀ p, H p = none → Q (.ref p) (upd H p (.tup ys))) : rSlT K (.ref a) lo hi H Q := ⟨a, xs, rfl, h, n, fun p hp => by rw [e]; exact q p hp⟩
inductive GR (H : Hp) (a : Addr) : Nat → Prop where
  | st {v : V} (h : H a = some (.tup [.str (Str.ofString "state"), v])) (hv : TSR H v true) : GR H a 80
  | fr {ln lv st mk : Int} {jt : V} {l : List Nat} (h : H a = some (.tup [.str (Str.ofString "frame"), .int ln, jt, .int lv, .int st, .int mk, .str (S l)])) (hj : JR H jt true) (h1 : inI (.int ln) 1 64 = true) (h2 : inI (.int lv) 0 5 = true) (h3 : inI (.int st) 1 64 = true) (h4 : inI (.int mk) 0 9972 = true) (hl : l.length ≤ 1000) (hb : ∀ c ∈ l, IsB c) : GR H a (40 + l.length)
theorem bits_ok {l : List Nat} (h : ∀ c ∈ l, IsB c) : bitsOf (S l) = true := by
  unfold bitsOf
  rw [strip_B h]
  exact decide_eq_true (congrArg V.str e_empty.symm)
theorem GR.same {H H' : Hp} {a : Addr} {n : Nat} (s : Same H H') (h : GR H a n) : GR H' a n := by
  cases h with
  | st h hv => exact .st (s _ _ h) (hv.same s)
  | fr h hj h1 h2 h3 h4 hl hb => exact .fr (s _ _ h) (hj.same s) h1 h2 h3 h4 hl hb
theorem GR.tup {H : Hp} {a : Addr} {n : Nat} (h : GR H a n) : ∃ xs, H a = some (.tup xs) := by
  cases h with
  | st h _ => exact ⟨_, h⟩
  | fr h _ _ _ _ _ _ _ => exact ⟨_, h⟩
theorem st_ne_fr : ¬ V.str (Str.ofString "frame") = V.str (Str.ofString "state") := by decide
/-- what spoils a frame at a place -/
def Bad (H : Hp) : Nat → V → Prop
  | 0, v => scalarV v = true ∧ v ≠ V.str (Str.ofString "frame")
  | 1, v => TyV H v ∧ inI v 1 64 = false
  | 2, v => JR H v false
  | 3, v => TyV H v ∧ inI v 0 5 = false
  | 4, v => TyV H v ∧ inI v 1 64 = false
  | 5, v => TyV H v ∧ inI v 0 9972 = false
  | 6, v => BitR H v false
  | _, _ => False
theorem Bad.same {H H' : Hp} (s : Same H H') : ∀ {n : Nat} {v : V}, Bad H n v → Bad H' n v
  | 0, _, h => h
  | 1, _, h => ⟨tyv_same s h.1, h.2⟩
  | 2, _, h => JR.same s h
  | 3, _, h => ⟨tyv_same s h.1, h.2⟩
  | 4, _, h => ⟨tyv_same s h.1, h.2⟩
  | 5, _, h => ⟨tyv_same s h.1, h.2⟩
  | 6, _, h => BitR.same s h
  | _ + 7, _, h => h
def frL (j : Addr) : List V := [.str (Str.ofString "frame"), .int 4, .ref j, .int 2, .int 1, .int 7, .str (Str.ofString "010")]
theorem cutV_to (xs : List V) (k : Nat) : cutV xs none (some (k : Int)) = xs.take k := by
  unfold cutV
  rw [HT.sIx_none, show HT.sIx xs.length xs.length (some (k : Int)) = min k xs.length from HT.sIx_nat _ _ k, List.drop_zero, Nat.sub_zero, ← List.take_take, List.take_length]
theorem cutV_from (xs : List V) (k : Nat) : cutV xs (some (k : Int)) none = xs.drop (min k xs.length) := by
  unfold cutV
  rw [HT.sIx_none, show HT.sIx xs.length 0 (some (k : Int)) = min k xs.length from HT.sIx_nat _ _ k, List.take_of_length_le (by rw [List.length_drop]; omega)]
theorem rd_slGT {K : PySem.W.Frag} {H : Hp} {Q : VK} {a : Addr} {xs : List V} {k : Nat} (h : SqL K H a xs) (q : ∀ p, H p = none → Q (.ref p) (upd H p (.lst (xs.take k)))) : rSlL K (.ref a) none (some (k : Int)) H Q := ⟨a, xs, rfl, h, fun p hp => by rw [cutV_to]; exact q p hp⟩
theorem rd_slGF {K : PySem.W.Frag} {H : Hp} {Q : VK} {a : Addr} {xs : List V} {k : Nat} (h : SqL K H a xs) (hk : k ≤ xs.length) (q : ∀ p, H p = none → Q (.ref p) (upd H p (.lst (xs.drop k)))) : rSlL K (.ref a) (some (k : Int)) none H Q := ⟨a, xs, rfl, h, fun p hp => by rw [cutV_from, Nat.min_eq_left hk]; exact q p hp⟩
theorem tr_ok {H : Hp} {r : Addr} {t c : Int} (h : H r = some (.tup [.int t, .int c])) (h0 : 0 ≤ t) (h1 : 1 ≤ c) (h2 : c ≤ 15) : TR H (.ref r) true := by
  have z := TR.tup2 h trivial trivial
  rw [show tt (.int t) (.int c) = true by rw [tt_int, decide_eq_true h0]; simp [inI, h1, h2]] at z
  exact z
def msk (p : Addr) (H : Hp) : Hp := fun a => if a = p then none else H a
section
variable {p a : Addr} {H H' : Hp} {o : HO}
theorem msk_same (s : Same H H') : Same (msk p H) (msk p H') := fun b x e => by
  unfold msk at e ⊢
  split at e
  · cases e
  · rename_i n
    rw [if_neg n]
    exact s _ _ e
end
/-- the tables and the frame of the law's bad records -/
def OS (p tl fr j : Addr) (xs : List V) (G : Hp) : Prop := msk p G tl = some (.lst xs) ∧ xs.length ≤ 20 ∧ (∀ v ∈ xs, TSR (msk p G) v false) ∧ msk p G fr = some (.lst (frL j)) ∧ msk p G j = some (.tup [.int 1, .int 2])
theorem OS.same {p tl fr j : Addr} {xs : List V} {G G' : Hp} (s : Same G G') (h : OS p tl fr j xs G) : OS p tl fr j xs G' := ⟨msk_same s _ _ h.1, h.2.1, fun v hv => (h.2.2.1 v hv).same (msk_same s), msk_same s _ _ h.2.2.2.1, msk_same s _ _ h.2.2.2.2⟩
def Fld (G : Hp) (i : Nat) (v : V) : Prop := ∃ a xs, v = .ref a ∧ G a = some (.lst xs) ∧ xs.length ≤ 10 ∧ ∀ x ∈ xs, Bad G i x
theorem Fld.same {G G' : Hp} (s : Same G G') {i : Nat} {v : V} (h : Fld G i v) : Fld G' i v := let ⟨a, xs, e, e1, n, b⟩ := h; ⟨a, xs, e, s _ _ e1, n, fun x hx => (b x hx).same s⟩
def FldL (G : Hp) (fs : List V) : Prop := ∀ (i : Nat) v, fs[i]? = some v → Fld G i v
theorem FldL.same {G G' : Hp} (s : Same G G') {fs : List V} (h : FldL G fs) : FldL G' fs := fun i v e => (h i v e).same s
theorem FldL.app {G : Hp} {fs ys : List V} (h : FldL G fs) (k : ∀ (i : Nat) v, ys[i]? = some v → Fld G (fs.length + i) v) : FldL G (fs ++ ys) := fun i v e => by
  by_cases c : i < fs.length
  · rw [List.getElem?_append_left c] at e
    exact h i v e
  · rw [List.getElem?_append_right (by omega)] at e
    have z := k _ v e
    rw [show fs.length + (i - fs.length) = i by omega] at z
    exact z
theorem FldL.nil {G : Hp} : FldL G [] := fun i v e => by simp at e
end Z
namespace Z
open PySem PySem.Spec PyProof.Rows L2
/-- the ends of a suite whose name goes behind it -/
def goEnds (i : Nat) (D : Ends) : Ends := ⟨fun σ H => D.nx (σ.set i none) H, D.rt, fun σ H => D.bk (σ.set i none) H, fun σ H => D.ct (σ.set i none) H⟩
def wNamed (K : PySem.W.Frag) (Wo : WX) (D : Ends) : List (Value × Nat × (Addr → Value → Option Addr → TS)) → WX
  | [] => Wo
  | e :: r => fun k d σ H => ∃ b, PySem.W.exmOne K k e.1 = some b ∧ (b = true → ∀ a, H a = none → e.2.2 a k d (goEnds e.2.1 D) (σ.set e.2.1 (some (.ref a))) H) ∧ (b = false → wNamed K Wo D r k d σ H)
inductive NamedOk (X : Cx) : List ExceptHandler → List (Value × Nat × (Addr → Value → Option Addr → TS)) → Prop
  | nil : NamedOk X [] []
  | cons {x n : Str} {c : Value} {i : Nat} {ts : Addr → Value → Option Addr → TS} {b : Stmt} {bs : List Stmt} {p q : Pos} {r : List ExceptHandler} {l : List (Value × Nat × (Addr → Value → Option Addr → TS))}
      (hi : X.N[i]? = some n) (hn : X.env.kindOf n = some .local) (hc : Names X x c) (su : ∀ (a : Addr) (oe : Obj) (k : Value) (d : Option Addr) (pn : List (Addr × Obj)), Zc k d oe → (∃ vs, oe.data = .fields vs) → PSs (X.suite a ((a, oe) :: pn)) (b :: bs) (ts a k d))
      (m : NamedOk X r l) : NamedOk X (.ExceptHandler (some (.Name x p)) (some n) (b :: bs) q :: r) ((c, i, ts) :: l)
theorem ps_try_named {X : Cx} {body : List Stmt} {h0 : ExceptHandler} {hds : List ExceptHandler} {l : List (Value × Nat × (Addr → Value → Option Addr → TS))} {pos : Pos} {tb : WX → TS} {Wo : WX}
    (e1 : X.stack = X.env :: X.outer) (e2 : X.env.frame = some X.env.locals) (nd : X.N.Nodup) (tk : Takes X Wo)
    (hb : ∀ (W : WX) (pn : List (Addr × Obj)) (xe : Value → Shared → Prop), Takes (X.tr pn xe) W → PassesOwn (model X.prog X.w) X.A X.env xe → PSs (X.tr pn xe) body (tb W))
    (hh : NamedOk X (h0 :: hds) l) : PS X (.Try body (h0 :: hds) [] [] pos) (fun D σ H => tb (wNamed X.K Wo D l) D σ H) := by
  constructor
  intro pins s σ H D I h
  have ok := I.ok
  have fr : X.A.frames = some (X.env :: X.outer) := ok.frames.trans (congrArg some e1)
  apply wpAny_Try_except
  have run := (hb (wNamed X.K Wo D l) (X.pn ++ pins) (fun e z => wpAny (model X.prog X.w) X.A (noteFrame e X.env) (fun _ z => wpAny (model X.prog X.w) X.A (setFlight e none) (fun _ z => wpAny (model X.prog X.w) X.A (handleBy e X.env (h0 :: hds)) (SP X pins D) X.xe z) X.xe z) X.xe z)
    ?caught PassesOwn.looking).run [] s σ H D (I.toTry _) h
  case caught =>
    rintro u z ⟨a, B, sI, pn2, τ, G, k, d, rfl, J0, nb, up, sky, na, os, ag, w⟩
    have J : Inv X pins τ G sI := J0.ofTry ok
    have sk : Sky B (X.env :: X.outer) a (Zc k d) X.env.locals z.heap := e1 ▸ sky
    show wpAny _ X.A (noteFrame (.ref a) X.env) _ _ _
    refine Sky.land Zc.steady fr e2 sk fun g3 f3 u3 => ?_
    have J3 : Inv X pins τ G { z with heap := g3 } := J.landed nb f3.1 (up.trans u3) os ag
    obtain ⟨o3, vs3, q1, q2, q3⟩ := f3.there
    have off : a ∉ frs (X.env :: X.outer) := fun hm => by
      obtain ⟨_, o', z1, z2⟩ := f3.2.2.1.mem hm
      have z3 := Option.some.inj (q1.symm.trans z1)
      subst z3
      exact z2 _ q3
    have offL : a ≠ X.env.locals := fun y => off (List.mem_filterMap.mpr ⟨_, .head _, by rw [e2, y]⟩)
    have offF : a ∉ X.fs := fun hm => let ⟨e, y1, y2⟩ := List.mem_filterMap.mp hm; off (List.mem_filterMap.mpr ⟨e, .tail _ y1, y2⟩)
    have S3 := J3.suite q1 q3 na offL offF
    suffices go : ∀ {hs2 : List ExceptHandler} {l2 : List (Value × Nat × (Addr → Value → Option Addr → TS))}, NamedOk X hs2 l2 → wNamed X.K Wo D l2 k d τ G → wpAny (model X.prog X.w) X.A (handleBy (.ref a) X.env hs2) (SP X pins D) X.xe { z with heap := g3 } from go hh w
    intro hs2 l2 hk
    induction hk with
    | nil =>
      intro w
      apply wpAny_handleBy_nil
      obtain ⟨_, _, _, oe, vs, T, oT, tS, y1, y2, y3, y4, y5⟩ := id f3
      unfold PySem.passOn
      refine wpAny_bind (wpAny_field y1 y3 y4 ?_)
      rw [if_neg (by simp : ¬ ((Value.ref T == Value.none) = true))]
      have last : wpAny (model X.prog X.w) X.A (setFlight (.ref a) X.env.frame) (fun _ y => wpAny (model X.prog X.w) X.A (throw (.ref a) : Sem Flow) (SP X pins D) X.xe y) X.xe { z with heap := g3 } :=
        e2 ▸ HandSPX.setFlight_upZ f3 fun g4 f4 u4 => wpAny_throw (tk _ _ ⟨a, B, sI, pins, τ, G, k, d, rfl, J, nb, (up.trans u3).trans u4, .inr (.inr (e1 ▸ f4)), na, os, ag, w⟩)
      first
        | exact wpAny_bind last
        | exact wpAny_bind (wpAny_pure (wpAny_bind last))
    | @cons x n c i ts b bs p q r l3 hi hn hc su m ih =>
      rintro ⟨t, t1, t2, t3⟩
      refine wpAny_handleBy_cons (codeAny_handlers_test ?_) (fun q => nomatch q)
      have look : PySem.W.Looks (model X.prog X.w) g3 (typeOf (.ref a)) k := fun A Q E s y v => wpAny_typeOf_ref (y _ _ q1) (q2.1.symm ▸ v)
      have name : ∀ {Q E : Value → Shared → Prop}, Q c { z with heap := g3 } → wpAny (model X.prog X.w) (X.A.mark (some (.ref a))) (eval (.Name x p) X.env) Q E { z with heap := g3 } := by
        intro Q E v
        obtain ⟨y1, y2, y3⟩ := hc
        cases y3 with
        | inl y3 => exact ld_glob (X := X.suite a ((a, o3) :: (X.pn ++ pins))) S3 y1 y3 v y2
        | inr y3 => exact ld_blt (X := X.suite a ((a, o3) :: (X.pn ++ pins))) S3 y1 y3.1 y3.2.1 v y3.2.2 y2
      refine name ((PySem.W.exm_one (M := model X.prog X.w) J3.kIn look t1).here ?_)
      cases t with
      | false => exact ih (t3 rfl)
      | true =>
        apply codeAny_handlers_suite_as
        refine HandSPX.lands_againZ f3 fun g4 f4 u4 => ?_
        have J4 : Inv X pins τ G { z with heap := g4 } := J.landed nb f4.1 ((up.trans u3).trans u4) os ag
        obtain ⟨o4, vs4, r1, r2, r3⟩ := f4.there
        refine store_ok (X := X.suite a ((a, o4) :: (X.pn ++ pins))) (v := .ref a) (J4.suite r1 r3 na offL offF) nd hi (.inl hn) rfl (fun s5 S5 => ?_) (.inr hn)
        refine wpAny_mono ((su a o4 k d _ r2 ⟨_, r3⟩).run [] s5 _ G _ S5 (t2 rfl a na)) (fun f s6 hp => ?_) (fun _ _ v => v.elim)
        have close : ∀ {τ' : L2.St} {G' : Hp} {Q : Shared → Prop}, Inv (X.suite a ((a, o4) :: (X.pn ++ pins))) [] τ' G' s6 → (∀ y, Inv X pins (τ'.set i none) G' y → Q y) →
            wpAny (model X.prog X.w) X.A (do bindName X.env n .none; unbindBehindTheSuite X.env n q) (fun _ y => Q y) X.xe s6 := fun S6 hq => gone_ok (S6.unsuite ok) nd hi hn hq
        cases f with
        | ret v =>
          obtain ⟨v', τ', G', S6, y1, y2⟩ := hp
          exact close S6 fun y Jy => ⟨v', _, G', Jy, y1, y2⟩
        | next => exact let ⟨τ', G', S6, y⟩ := hp; close S6 fun _ Jy => ⟨_, G', Jy, y⟩
        | brk => exact let ⟨τ', G', S6, y⟩ := hp; close S6 fun _ Jy => ⟨_, G', Jy, y⟩
        | cont => exact let ⟨τ', G', S6, y⟩ := hp; close S6 fun _ Jy => ⟨_, G', Jy, y⟩
  refine wpAny_mono run (fun f y hp => ?_) (fun _ _ v => v)
  cases f with
  | next => exact let ⟨τ', G', J, v⟩ := hp; wpAny_execs_nil ⟨τ', G', J.ofTry ok, v⟩
  | brk => exact let ⟨τ', G', J, v⟩ := hp; ⟨τ', G', J.ofTry ok, v⟩
  | cont => exact let ⟨τ', G', J, v⟩ := hp; ⟨τ', G', J.ofTry ok, v⟩
  | ret u => exact let ⟨v, τ', G', J, r, y⟩ := hp; ⟨v, τ', G', J.ofTry ok, r, y⟩
end Z
namespace Z
open PySem PySem.Spec PyProof.Rows L2
/-- told: what the errors of a call become, and what its end becomes -/
def ErM (L : List (Addr × Str × (V → List V))) (Q : VK) : XK := fun cls d H' => ∃ e ∈ L, ErL e.1 e.2.1 e.2.2 Q cls d H'
def TTm (L : List (Addr × Str × (V → List V))) (Fin : V → Hp → VK → Prop) : (XK → Hp → VK → Prop) → Hp → VK → Prop := fun tl H Q => ∀ Qn : VK, (∀ v H', Fin v H' Q → Qn v H') → tl (ErM L Q) H Qn
theorem rd_toldM {L : List (Addr × Str × (V → List V))} {Fin : V → Hp → VK → Prop} {tl : XK → Hp → VK → Prop} {H : Hp} {Q : VK} (h : ∀ Qn : VK, (∀ v H', Fin v H' Q → Qn v H') → tl (ErM L Q) H Qn) : TTm L Fin tl H Q := h
/-- the first item that is no integer -/
inductive IT (H : Hp) (xs : List V) : Option Nat → Prop where
  | bad {i : Nat} {v : V} (b : ∀ j, j < i → ∃ z, xs[j]? = some (.int z)) (e : xs[i]? = some v) (n : isI v = false) (t : ∀ x ∈ xs, TyV H x) : IT H xs (some i)
  | good {ns : List Int} (e : xs = ns.map V.int) : IT H xs none
theorem tyvS {H H' : Hp} {v : V} (s : Same H H') (h : TyV H v) : TyV H' v := by
  cases v with
  | ref a => exact h.elim (fun ⟨xs, e⟩ => .inl ⟨xs, s _ _ e⟩) fun ⟨xs, e⟩ => .inr ⟨xs, s _ _ e⟩
  | _ => exact h
theorem IT.same {H H' : Hp} {xs : List V} {o : Option Nat} (s : Same H H') (h : IT H xs o) : IT H' xs o := by
  cases h with
  | bad b e n t => exact .bad b e n fun x hx => tyvS s (t x hx)
  | good e => exact .good e
theorem IT.at {H : Hp} {xs : List V} {o : Option Nat} {i : Nat} {v : V} (h : IT H xs o) (e : xs[i]? = some v) (hi : ∀ k, o = some k → i ≤ k) : (o = some i ∧ isI v = false ∧ TyV H v) ∨ (∃ z, v = .int z) ∧ ∀ k, o = some k → i + 1 ≤ k := by
  cases h with
  | @bad k u b eu n t =>
    have hk := hi k rfl
    by_cases hik : i = k
    · subst hik
      rw [e] at eu
      cases eu
      exact .inl ⟨rfl, n, t v (List.mem_of_getElem? e)⟩
    · obtain ⟨z, hz⟩ := b i (by omega)
      rw [e] at hz
      cases hz
      exact .inr ⟨⟨z, rfl⟩, fun k' e' => by cases e'; omega⟩
  | @good ns eu =>
    subst eu
    rw [List.getElem?_map] at e
    cases g : ns[i]? with
    | none => rw [g] at e; cases e
    | some z => rw [g] at e; cases e; exact .inr ⟨⟨z, rfl⟩, fun k' e' => nomatch e'⟩
theorem IT.len {H : Hp} {xs : List V} {o : Option Nat} (h : IT H xs o) (hi : ∀ k, o = some k → xs.length ≤ k) : o = none := by
  cases h with
  | bad b e n t => exact absurd (hi _ rfl) (Nat.not_le.mpr (List.getElem?_eq_some_iff.mp e).1)
  | good e => rfl
/-- what a block check says of a value -/
inductive BR (H : Hp) : V → Option V → Prop where
  | flat {x : V} (h : scalarV x = true) : BR H x (some .non)
  | tup {a : Addr} {xs : List V} (h : H a = some (.tup xs)) : BR H (.ref a) (some .non)
  | size {a : Addr} {xs : List V} (h : H a = some (.lst xs)) (n : ¬ (1 ≤ xs.length ∧ xs.length ≤ 64)) (m : xs.length ≤ 1000) : BR H (.ref a) (some .non)
  | item {a : Addr} {xs : List V} {o : Option Nat} (h : H a = some (.lst xs)) (n1 : 1 ≤ xs.length) (n2 : xs.length ≤ 64) (t : IT H xs o) : BR H (.ref a) (o.map fun i => .int (i : Nat))
theorem BR.same {H H' : Hp} {x : V} {o : Option V} (s : Same H H') (h : BR H x o) : BR H' x o := by
  cases h with
  | flat h => exact .flat h
  | tup h => exact .tup (s _ _ h)
  | size h n m => exact .size (s _ _ h) n m
  | item h n1 n2 t => exact .item (s _ _ h) n1 n2 (t.same s)
theorem BR.fine {H : Hp} {x : V} (h : BR H x none) : ∃ (a : Addr) (ns : List Int), x = .ref a ∧ H a = some (.lst (ns.map V.int)) ∧ 1 ≤ ns.length ∧ ns.length ≤ 64 := by
  obtain ⟨o, ho, h⟩ : ∃ o : Option V, o = none ∧ BR H x o := ⟨_, rfl, h⟩
  cases h with
  | flat _ => cases ho
  | tup _ => cases ho
  | size _ _ _ => cases ho
  | @item a xs o h n1 n2 t =>
    cases t with
    | bad _ _ _ _ => cases ho
    | @good ns e =>
      subst e
      rw [List.length_map] at n1 n2
      exact ⟨a, ns, rfl, h, n1, n2⟩
theorem BR.ty {H : Hp} {x : V} {o : Option V} (h : BR H x o) : TyV H x := by
  cases h with
  | flat h => cases x <;> first | exact True.intro | exact Bool.noConfusion h
  | tup h => exact .inr ⟨_, h⟩
  | size h _ _ => exact .inl ⟨_, h⟩
  | item h _ _ _ => exact .inl ⟨_, h⟩
def scOk : V → Bool
  | .non => true
  | .bl _ => true
  | .int _ => true
  | .str s => PyData.strOk s
  | _ => false
theorem scOk.sc {v : V} (h : scOk v = true) : scalarV v = true := by cases v <;> first | rfl | exact Bool.noConfusion h
def EV (l : List Addr) (H : Hp) (v : V) : Prop := scOk v = true ∨ ∃ a xs, v = .ref a ∧ a ∉ l ∧ (H a = some (.lst xs) ∨ H a = some (.tup xs)) ∧ ∀ x ∈ xs, scOk x = true
def KpLN (l : List Addr) (H H' : Hp) : Prop := ∀ a o, a ∉ l → H a = some o → (∀ ps, o ≠ .tbl ps) → H' a = some o
section
variable {l : List Addr} {p q : Addr} {H H' H1 H2 : Hp} {o : HO} {v : V} {K : PySem.W.Frag}
theorem nm_cons {a b : Addr} {m : List Addr} (h : a ≠ b) (k : a ∉ m) : a ∉ b :: m := fun z => (List.mem_cons.mp z).elim h k
theorem ne_new {a b : Addr} {u : HO} (h : H a = none) (k : H b = some u) : a ≠ b := fun z => by rw [z, k] at h; cases h
theorem ixN_int {n : Nat} {r : Int} (h0 : 0 ≤ r) (h1 : r < n) : ixN n r = some r.toNat := by
  obtain ⟨j, rfl⟩ : ∃ j : Nat, r = (j : Int) := ⟨r.toNat, by omega⟩
  exact ixN_nat (by omega)
theorem KpLN.refl : KpLN l H H := fun _ _ _ h _ => h
theorem KpLN.trans (a : KpLN l H H1) (b : KpLN l H1 H2) : KpLN l H H2 := fun c o n h t => b c o n (a c o n h t) t
theorem KpLN.ofL (k : KpL l H H') : KpLN l H H' := fun a o n h _ => k a o n h
theorem KpLN.of (s : Same H H') : KpLN l H H' := fun a o _ h _ => s a o h
theorem KpLN.ofN (s : LamX.ExtN H H') : KpLN l H H' := fun a o _ h t => s a o h t
theorem KpLN.ofK (m : p ∈ l) (k : Kp p H H') : KpLN l H H' := .ofL (KpL.ofK m k)
theorem KpLN.new (n : H q = none) : KpLN l H (upd H q o) := .of (same_new n)
theorem KpLN.at (m : q ∈ l) : KpLN l H (upd H q o) := .ofL (KpL.at m)
theorem EV.kp (k : KpLN l H H') (h : EV l H v) : EV l H' v := by
  rcases h with h | ⟨a, xs, e, n, h | h, s⟩
  · exact .inl h
  · exact .inr ⟨a, xs, e, n, .inl (k _ _ n h lst_ntbl), s⟩
  · exact .inr ⟨a, xs, e, n, .inr (k _ _ n h tup_ntbl), s⟩
theorem EV.set {xs : List V} {j : Nat} {S : Addr} {u : HO} (h : ∀ x ∈ xs, EV l H x) (hv : EV l H v) (m : S ∈ l) : ∀ x ∈ xs.set j v, EV l (upd H S u) x := fun x hx => by
  have k : KpLN l H (upd H S u) := .at m
  rcases List.mem_or_eq_of_mem_set hx with hx | rfl
  · exact (h x hx).kp k
  · exact hv.kp k
theorem EV.ty (h : EV l H v) : TyV H v := by
  rcases h with h | ⟨a, xs, rfl, _, h | h, _⟩
  · cases v <;> first | exact True.intro | exact Bool.noConfusion h
  · exact .inl ⟨xs, h⟩
  · exact .inr ⟨xs, h⟩
theorem EV.sm (h : EV l H v) : SmV K H 1 v v := by
  rcases h with h | ⟨a, xs, rfl, _, h | h, s⟩
  · exact .inl ⟨rfl, scOk.sc h⟩
  · exact .inr (.inl ⟨a, a, xs, xs, rfl, rfl, .of h, .of h, rfl, fun i x y e1 e2 => by
      rw [e1] at e2
      exact ⟨Option.some.inj e2, scOk.sc (s x (List.mem_of_getElem? e1))⟩⟩)
  · exact .inr (.inr ⟨a, a, xs, xs, rfl, rfl, .of h, .of h, rfl, fun i x y e1 e2 => by
      rw [e1] at e2
      exact ⟨Option.some.inj e2, scOk.sc (s x (List.mem_of_getElem? e1))⟩⟩)
theorem EV.sc (h : scOk v = true) : EV l H v := .inl h
theorem EV.lst {a : Addr} {xs : List V} (n : a ∉ l) (h : H a = some (.lst xs)) (s : ∀ x ∈ xs, scOk x = true) : EV l H (.ref a) := .inr ⟨a, xs, rfl, n, .inl h, s⟩
theorem EV.tup {a : Addr} {xs : List V} (n : a ∉ l) (h : H a = some (.tup xs)) (s : ∀ x ∈ xs, scOk x = true) : EV l H (.ref a) := .inr ⟨a, xs, rfl, n, .inr h, s⟩
def spOddE : Sp := fun vs H Q _ => ∃ (p : Addr), vs = [.ref p] ∧ Pool H p ∧ ∀ v H', EV [p] H' v → Pool H' p → Kp p H H' → Q v H'
theorem use_oddE {Q : VK} {E : XK} (h : Pool H p) (q : ∀ v H', EV [p] H' v → Pool H' p → Kp p H H' → Q v H') : spOddE ([.ref p] ++ []) H Q E := ⟨p, rfl, h, q⟩
end
def GV (p : Addr) (H : Hp) (xs : List V) (x : V) : Prop := (∃ a, x = .ref a ∧ a ≠ p ∧ H a = some (.lst xs)) ∨ scalarV x = true ∨ ∃ a ys, x = .ref a ∧ a ≠ p ∧ H a = some (.tup ys)
section
variable {p S : Addr} {H H' H1 H2 H3 : Hp} {xs ys : List V} {x : V} {o : Option V} {T : List (Addr × Str)}
theorem GV.kp (k : KpLN [p] H H') (h : GV p H xs x) : GV p H' xs x := by
  rcases h with ⟨a, e, n, h⟩ | h | ⟨a, ys, e, n, h⟩
  · exact .inl ⟨a, e, n, k _ _ (nm_cons n List.not_mem_nil) h lst_ntbl⟩
  · exact .inr (.inl h)
  · exact .inr (.inr ⟨a, ys, e, n, k _ _ (nm_cons n List.not_mem_nil) h tup_ntbl⟩)
theorem tyvE (s : LamX.ExtN H H') (h : TyV H x) : TyV H' x := by
  cases x with
  | ref a => exact h.elim (fun ⟨xs, e⟩ => .inl ⟨xs, s _ _ e lst_ntbl⟩) fun ⟨xs, e⟩ => .inr ⟨xs, s _ _ e tup_ntbl⟩
  | _ => exact h
theorem BR.ext (s : LamX.ExtN H H') (h : BR H x o) : BR H' x o := by
  cases h with
  | flat h => exact .flat h
  | tup h => exact .tup (s _ _ h tup_ntbl)
  | size h n m => exact .size (s _ _ h lst_ntbl) n m
  | item h n1 n2 t =>
    refine .item (s _ _ h lst_ntbl) n1 n2 ?_
    cases t with
    | bad b e n t => exact .bad b e n fun x hx => tyvE s (t x hx)
    | good e => exact .good e
theorem KpLN.drop {l : List Addr} (k : KpLN (S :: l) H H') (n : H S = none) : KpLN l H H' := fun a o m h t => k a o (nm_cons (fun z => by rw [z, n] at h; cases h) m) h t
theorem Tabs.setL (h : H S = some (.lst xs)) (t : LamX.Tabs T H) : LamX.Tabs T (upd H S (.lst ys)) := fun e he => by
  obtain ⟨ps, h1, h2, h3⟩ := t e he
  refine ⟨ps, by rw [upd_ne (fun z => by rw [z, h] at h1; cases h1)]; exact h1, h2, fun pos cv hc => ?_⟩
  obtain ⟨c, e1, e2⟩ := h3 pos cv hc
  exact ⟨c, e1, by rw [upd_ne (fun z => by rw [z, h] at e2; exact codeO_lst (Option.some.inj e2).symm)]; exact e2⟩
theorem Pool.setL (n : S ≠ p) (h : Pool H p) {u : HO} : Pool (upd H S u) p := by
  obtain ⟨x, y, e, r⟩ := h
  exact ⟨x, y, by rw [upd_ne n.symm]; exact e, r⟩
theorem extN_same (s : Same H H') : LamX.ExtN H H' := .of fun b o e => s b o e
end
end Z
namespace Z
open PySem PySem.Spec PyProof.Rows L2
def PV (l : List Addr) (H : Hp) : Nat → V → Prop
  | 0, v => scOk v = true
  | n + 1, v => scOk v = true ∨ ∃ a xs, v = .ref a ∧ a ∉ l ∧ LT H a xs ∧ ∀ x ∈ xs, PV l H n x
section
variable {l : List Addr} {p q S : Addr} {H H' : Hp} {v : V} {K : PySem.W.Frag}
theorem LT.kpln {a : Addr} {xs : List V} (k : KpLN l H H') (n : a ∉ l) (h : LT H a xs) : LT H' a xs := h.imp (fun e => k _ _ n e lst_ntbl) fun e => k _ _ n e tup_ntbl
theorem PV.kp (k : KpLN l H H') : ∀ {n : Nat} {v : V}, PV l H n v → PV l H' n v
  | 0, _, h => h
  | n + 1, v, h => by
    rcases h with h | ⟨a, xs, e, m, h, s⟩
    · exact .inl h
    · exact .inr ⟨a, xs, e, m, h.kpln k m, fun x hx => PV.kp k (s x hx)⟩
theorem PV.sc (h : scOk v = true) : ∀ {n : Nat}, PV l H n v
  | 0 => h
  | _ + 1 => .inl h
theorem PV.up : ∀ {n : Nat} {v : V}, PV l H n v → PV l H (n + 1) v
  | 0, _, h => .inl h
  | n + 1, v, h => by
    rcases h with h | ⟨a, xs, e, k, h, t⟩
    · exact .inl h
    · exact .inr ⟨a, xs, e, k, h, fun x hx => (t x hx).up⟩
theorem PV.tup {n : Nat} {a : Addr} {xs : List V} (m : a ∉ l) (h : H a = some (.tup xs)) (s : ∀ x ∈ xs, PV l H n x) : PV l H (n + 1) (.ref a) := .inr ⟨a, xs, rfl, m, .inr h, s⟩
theorem PV.lst {n : Nat} {a : Addr} {xs : List V} (m : a ∉ l) (h : H a = some (.lst xs)) (s : ∀ x ∈ xs, PV l H n x) : PV l H (n + 1) (.ref a) := .inr ⟨a, xs, rfl, m, .inl h, s⟩
theorem PV.ty : ∀ {n : Nat} {v : V}, PV l H n v → TyV H v
  | 0, v, h => by cases v <;> first | exact True.intro | exact Bool.noConfusion h
  | n + 1, v, h => by
    rcases h with h | ⟨a, xs, rfl, m, h | h, s⟩
    · cases v <;> first | exact True.intro | exact Bool.noConfusion h
    · exact .inl ⟨xs, h⟩
    · exact .inr ⟨xs, h⟩
theorem PV.set {n : Nat} {xs : List V} {j : Nat} {u : HO} (h : ∀ x ∈ xs, PV l H n x) (hv : PV l H n v) (m : S ∈ l) : ∀ x ∈ xs.set j v, PV l (upd H S u) n x := fun x hx => by
  have k : KpLN l H (upd H S u) := .at m
  rcases List.mem_or_eq_of_mem_set hx with hx | rfl
  · exact (h x hx).kp k
  · exact hv.kp k
theorem PV.app {n : Nat} {xs : List V} {u : HO} (h : ∀ x ∈ xs, PV l H n x) (hv : PV l H n v) (m : S ∈ l) : ∀ x ∈ xs ++ [v], PV l (upd H S u) n x := fun x hx => by
  have k : KpLN l H (upd H S u) := .at m
  rcases List.mem_append.mp hx with hx | hx
  · exact (h x hx).kp k
  · rw [List.mem_singleton.mp hx]; exact hv.kp k
end
inductive SR (H : Hp) (n : Nat) : V → Option V → Prop where
  | flat {x : V} (h : scalarV x = true) : SR H n x (some .non)
  | seq {a : Addr} {xs : List V} {o : Option Nat} (h : LT H a xs) (e : xs.length = n) (m : n ≤ 1000) (t : IT H xs o) : SR H n (.ref a) (o.map fun i => .int (i : Nat))
inductive PJ (H : Hp) : V → Option (Int × Int × Int) → Prop where
  | flat {x : V} (h : scalarV x = true) : PJ H x none
  | lst {a : Addr} {xs : List V} (h : H a = some (.lst xs)) : PJ H (.ref a) none
  | tupn {a : Addr} {xs : List V} (h : H a = some (.tup xs)) (n : xs.length ≠ 2) : PJ H (.ref a) none
  | noi {a : Addr} {u v : V} (h : H a = some (.tup [u, v])) (t : TyV H u) (n : isI u = false) : PJ H (.ref a) none
  | noj {a : Addr} {i : Int} {v : V} (h : H a = some (.tup [.int i, v])) (t : JR H v false) : PJ H (.ref a) none
  | good {a b : Addr} {i w s : Int} (h : H a = some (.tup [.int i, .ref b])) (g : H b = some (.tup [.int w, .int s])) (t : jt (.int w) (.int s) = true) : PJ H (.ref a) (some (i, w, s))
inductive All2 {α β : Type} (R : α → β → Prop) : List α → List β → Prop where
  | nil : All2 R [] []
  | cons {a : α} {b : β} {as : List α} {bs : List β} (h : R a b) (t : All2 R as bs) : All2 R (a :: as) (b :: bs)
theorem All2.imp {α β : Type} {R S : α → β → Prop} (f : ∀ a b, R a b → S a b) {as : List α} {bs : List β} (h : All2 R as bs) : All2 S as bs := by
  induction h with
  | nil => exact .nil
  | cons h _ ih => exact .cons (f _ _ h) ih
theorem All2.get {α β : Type} {R : α → β → Prop} {as : List α} {bs : List β} (h : All2 R as bs) : ∀ (i : Nat) (a : α), as[i]? = some a → ∃ b r, R a b ∧ bs.drop i = b :: r ∧ bs.drop (i + 1) = r := by
  induction h with
  | nil => intro i a e; simp at e
  | @cons a b as bs h t ih =>
    intro i x e
    cases i with
    | zero => cases e; exact ⟨b, bs, h, rfl, rfl⟩
    | succ i => exact ih i x e
theorem All2.len {α β : Type} {R : α → β → Prop} {as : List α} {bs : List β} (h : All2 R as bs) : as.length = bs.length := by
  induction h with
  | nil => rfl
  | cons _ _ ih => exact congrArg (· + 1) ih
def rmB (n : Nat) (l b : Int) (i w : Int) : Bool := decide (l < i ∧ i < n ∧ l + b + w ≤ i ∧ i + w ≤ n)
/-- the first item that can not stand -/
def jb (n : Nat) : Nat → Int → Int → List (Option (Int × Int × Int)) → Option Nat
  | _, _, _, [] => none
  | k, _, _, none :: _ => some k
  | k, l, b, some (i, w, s) :: r => if rmB n l b i w then jb n (k + 1) i w r else some k
inductive JP (H : Hp) (n : Nat) : V → Option V → Prop where
  | flat {x : V} (h : scalarV x = true) : JP H n x (some .non)
  | seq {a : Addr} {xs : List V} {ps : List (Option (Int × Int × Int))} (h : LT H a xs) (m : xs.length ≤ 1000) (t : All2 (PJ H) xs ps) : JP H n (.ref a) ((jb n 0 0 0 ps).map fun i => .int (i : Nat))
section
variable {H H' : Hp} {n : Nat} {x : V} {o : Option V}
theorem jr_ext (s : LamX.ExtN H H') {b : Bool} (h : JR H x b) : JR H' x b := by
  cases h with
  | flat h => exact .flat h
  | lst h => exact .lst (s _ _ h lst_ntbl)
  | tupn h n => exact .tupn (s _ _ h tup_ntbl) n
  | tup2 h u v => exact .tup2 (s _ _ h tup_ntbl) (tyvE s u) (tyvE s v)
theorem pj_ext (s : LamX.ExtN H H') {j : Option (Int × Int × Int)} (h : PJ H x j) : PJ H' x j := by
  cases h with
  | flat h => exact .flat h
  | lst h => exact .lst (s _ _ h lst_ntbl)
  | tupn h n => exact .tupn (s _ _ h tup_ntbl) n
  | noi h t n => exact .noi (s _ _ h tup_ntbl) (tyvE s t) n
  | noj h t => exact .noj (s _ _ h tup_ntbl) (jr_ext s t)
  | good h g t => exact .good (s _ _ h tup_ntbl) (s _ _ g tup_ntbl) t
theorem lt_ext {a : Addr} {xs : List V} (s : LamX.ExtN H H') (h : LT H a xs) : LT H' a xs := h.imp (fun e => s _ _ e lst_ntbl) fun e => s _ _ e tup_ntbl
theorem it_ext {xs : List V} {o : Option Nat} (s : LamX.ExtN H H') (h : IT H xs o) : IT H' xs o := by
  cases h with
  | bad b e n t => exact .bad b e n fun x hx => tyvE s (t x hx)
  | good e => exact .good e
theorem SR.ext (s : LamX.ExtN H H') (h : SR H n x o) : SR H' n x o := by
  cases h with
  | flat h => exact .flat h
  | seq h e m t => exact .seq (lt_ext s h) e m (it_ext s t)
theorem JP.ext (s : LamX.ExtN H H') (h : JP H n x o) : JP H' n x o := by
  cases h with
  | flat h => exact .flat h
  | seq h m t => exact .seq (lt_ext s h) m (t.imp fun _ _ => pj_ext s)
theorem SR.same (s : Same H H') (h : SR H n x o) : SR H' n x o := h.ext (extN_same s)
theorem JP.same (s : Same H H') (h : JP H n x o) : JP H' n x o := h.ext (extN_same s)
theorem jt_nat {w s : Int} (h : jt (.int w) (.int s) = true) : ∃ a b : Nat, w = (a : Int) ∧ s = (b : Int) ∧ a ≤ 8 ∧ b ≤ 3 ∧ (a = 0 → b = 0) := by
  unfold jt at h
  simp only [Bool.and_eq_true, jx, Bool.or_eq_true, decide_eq_true_eq, inI] at h
  obtain ⟨h1, h2, h3⟩ := h
  exact ⟨w.toNat, s.toNat, by omega, by omega, by omega, by omega, by omega⟩
/-- no item is refused: they are joints with room -/
theorem jb_none : ∀ (ps : List (Option (Int × Int × Int))) (xs : List V) (k l b : Nat), All2 (PJ H) xs ps → jb n k (l : Int) (b : Int) ps = none → ∃ js : List Jo, JsAt H xs js ∧ Rm n l b js
  | _, _, k, l, b, .nil, _ => ⟨[], ⟨rfl, fun i v e => by simp at e⟩, True.intro⟩
  | none :: _, _, k, l, b, .cons _ _, h => by cases h
  | some (i, w, s) :: r, x :: xs, k, l, b, .cons hp t, h => by
    have h' : (if rmB n l b i w then jb n (k + 1) i w r else some k) = none := h
    by_cases c : rmB n l b i w = true
    · rw [if_pos c] at h'
      have c := of_decide_eq_true c
      cases hp with
      | @good a q _ _ _ e1 e2 ht =>
        obtain ⟨w', s', rfl, rfl, w8, s3, w0⟩ := jt_nat ht
        obtain ⟨i', rfl⟩ : ∃ i' : Nat, i = (i' : Int) := ⟨i.toNat, by omega⟩
        obtain ⟨js, hj, hr⟩ := jb_none r xs (k + 1) i' w' t h'
        refine ⟨(i', w', s') :: js, ⟨congrArg (· + 1) hj.1, fun m v e => ?_⟩, ?_⟩
        · cases m with
          | zero => cases e; exact ⟨(i', w', s'), a, q, rfl, rfl, e1, e2⟩
          | succ m => exact hj.2 m v e
        · exact ⟨by dsimp only; omega, by dsimp only; omega, by dsimp only; omega, by dsimp only; omega, w8, s3, w0, hr⟩
    · rw [if_neg c] at h'
      cases h'
end
theorem SR.fine {H : Hp} {n : Nat} {x : V} (h : SR H n x none) : ∃ (a : Addr) (ns : List Int), x = .ref a ∧ LT H a (ns.map V.int) ∧ ns.length = n ∧ n ≤ 1000 := by
  obtain ⟨o, ho, h⟩ : ∃ o : Option V, o = none ∧ SR H n x o := ⟨_, rfl, h⟩
  cases h with
  | flat _ => cases ho
  | @seq a xs o h e m t =>
    cases t with
    | bad _ _ _ _ => cases ho
    | @good ns e2 =>
      subst e2
      exact ⟨a, ns, rfl, h, by rw [← e, List.length_map], m⟩
theorem JP.fine {H : Hp} {n : Nat} {x : V} (h : JP H n x none) : ∃ (a : Addr) (refs : List V) (js : List Jo), x = .ref a ∧ LT H a refs ∧ JsAt H refs js ∧ Rm n 0 0 js := by
  obtain ⟨o, ho, h⟩ : ∃ o : Option V, o = none ∧ JP H n x o := ⟨_, rfl, h⟩
  cases h with
  | flat _ => cases ho
  | @seq a xs ps hL m t =>
    cases g : jb n 0 0 0 ps with
    | some k => rw [g] at ho; cases ho
    | none =>
      obtain ⟨js, h1, h2⟩ := jb_none ps xs 0 0 0 t g
      exact ⟨a, xs, js, rfl, hL, h1, h2⟩
def Al (l : List Addr) (H : Hp) : Prop := ∀ a ∈ l, ∃ o, H a = some o
theorem nm_al {l : List Addr} {p q : Addr} {H H1 : Hp} (hl : Al l H) (k : Kp p H H1) (hp : Pool H1 p) (n : H1 q = none) : q ∉ l := fun z => by
  obtain ⟨o, e⟩ := hl _ z
  by_cases c : q = p
  · obtain ⟨x, y, e2, _⟩ := hp
    rw [c, e2] at n
    cases n
  · rw [k _ _ c e] at n
    cases n
def GQ (p : Addr) (H : Hp) (xs : List V) (x : V) : Prop := (∃ a, x = .ref a ∧ a ≠ p ∧ LT H a xs) ∨ scalarV x = true
section
variable {p : Addr} {H H' : Hp} {xs : List V} {x : V} {m : Nat}
theorem GQ.kp (k : KpLN [p] H H') (h : GQ p H xs x) : GQ p H' xs x := h.imp (fun ⟨a, e, n, h⟩ => ⟨a, e, n, h.kpln k (nm_cons n List.not_mem_nil)⟩) id
end
end Z
namespace Z
open PySem PySem.Spec PyProof.Rows L2
open SX (S S_len S_cat S_inj)
inductive BZ (H : Hp) (n : Nat) : V → Option V → Prop where
  | flat {x : V} (h : scalarV x = true) : BZ H n x (some .non)
  | tup {a : Addr} {xs : List V} (h : H a = some (.tup xs)) : BZ H n (.ref a) (some .non)
  | size {a : Addr} {xs : List V} (h : H a = some (.lst xs)) (e : xs.length = n) (c : 64 < n) (m : n ≤ 1000) : BZ H n (.ref a) (some .non)
  | item {a : Addr} {xs : List V} {o : Option Nat} (h : H a = some (.lst xs)) (e : xs.length = n) (c : n ≤ 64) (t : IT H xs o) : BZ H n (.ref a) (o.map fun i => .int (i : Nat))
section
variable {H H' : Hp} {n : Nat} {x v : V} {o : Option V} {b : Bool} {p : Addr}
theorem BZ.ext (s : LamX.ExtN H H') (h : BZ H n x o) : BZ H' n x o := by
  cases h with
  | flat h => exact .flat h
  | tup h => exact .tup (s _ _ h tup_ntbl)
  | size h e c m => exact .size (s _ _ h lst_ntbl) e c m
  | item h e c t => exact .item (s _ _ h lst_ntbl) e c (it_ext s t)
theorem it_move {xs : List V} {o : Option Nat} (t : ∀ y ∈ xs, TyV H' y) (h : IT H xs o) : IT H' xs o := by
  cases h with
  | bad b e n _ => exact .bad b e n t
  | good e => exact .good e
/-- the pool may be drawn from -/
theorem BZ.kp (k : KpLN [p] H H') (q : ∀ a, x = .ref a → a ≠ p) (t : ∀ a xs, x = .ref a → H a = some (.lst xs) → ∀ y ∈ xs, PV [p] H 1 y) (h : BZ H n x o) : BZ H' n x o := by
  cases h with
  | flat h => exact .flat h
  | @tup a xs h => exact .tup (k _ _ (nm_cons (q a rfl) List.not_mem_nil) h tup_ntbl)
  | @size a xs h e c m => exact .size (k _ _ (nm_cons (q a rfl) List.not_mem_nil) h lst_ntbl) e c m
  | @item a xs o h e c i => exact .item (k _ _ (nm_cons (q a rfl) List.not_mem_nil) h lst_ntbl) e c (it_move (fun y hy => ((t a xs rfl h y hy).kp k).ty) i)
theorem BZ.fine (h : BZ H n x none) : ∃ (a : Addr) (ns : List Int), x = .ref a ∧ H a = some (.lst (ns.map V.int)) ∧ ns.length = n ∧ n ≤ 64 := by
  obtain ⟨o, ho, h⟩ : ∃ o : Option V, o = none ∧ BZ H n x o := ⟨_, rfl, h⟩
  cases h with
  | flat _ => cases ho
  | tup _ => cases ho
  | size _ _ _ _ => cases ho
  | @item a xs o hL e c t =>
    cases t with
    | bad _ _ _ _ => cases ho
    | @good ns e2 =>
      subst e2
      exact ⟨a, ns, rfl, hL, by rw [← e, List.length_map], c⟩
def TbsH (H : Hp) (a : Addr) (T : Tb × Tb) : Prop := ∃ r0 r1, H a = some (.tup [.ref r0, .ref r1]) ∧ H r0 = some (.tup [.int T.1.1, .int T.1.2]) ∧ H r1 = some (.tup [.int T.2.1, .int T.2.2])
theorem TbsH.tv {K : PySem.W.Frag} {a : Addr} {T : Tb × Tb} (h : TbsH H a T) : TbsV K H a T := let ⟨r0, r1, h0, h1, h2⟩ := h; ⟨r0, r1, .of h0, .of h1, .of h2⟩
def StQ (H : Hp) (v : V) (b : Bool) : Prop := TSR H v b ∧ (b = true → ∃ a T, v = .ref a ∧ TbsH H a T ∧ TbOk (10 ^ 56) T.1 ∧ TbOk (10 ^ 56) T.2)
theorem tr_ext (s : LamX.ExtN H H') (h : TR H v b) : TR H' v b := by
  cases h with
  | flat h => exact .flat h
  | lst h => exact .lst (s _ _ h lst_ntbl)
  | tupn h n => exact .tupn (s _ _ h tup_ntbl) n
  | tup2 h hu hv => exact .tup2 (s _ _ h tup_ntbl) (tyvE s hu) (tyvE s hv)
theorem tsr_ext (s : LamX.ExtN H H') (h : TSR H v b) : TSR H' v b := by
  cases h with
  | flat h => exact .flat h
  | lst h => exact .lst (s _ _ h lst_ntbl)
  | tupn h n => exact .tupn (s _ _ h tup_ntbl) n
  | tup2 h hu hv => exact .tup2 (s _ _ h tup_ntbl) (tr_ext s hu) (tr_ext s hv)
theorem StQ.ext (s : LamX.ExtN H H') (h : StQ H v b) : StQ H' v b := ⟨tsr_ext s h.1, fun z => by
  obtain ⟨a, T, e, ⟨r0, r1, h0, h1, h2⟩, o1, o2⟩ := h.2 z
  exact ⟨a, T, e, ⟨r0, r1, s _ _ h0 tup_ntbl, s _ _ h1 tup_ntbl, s _ _ h2 tup_ntbl⟩, o1, o2⟩⟩
theorem PV.mem {m : Nat} {a : Addr} {xs : List V} (h : PV [p] H (m + 1) (.ref a)) (e : H a = some (.tup xs)) : a ≠ p ∧ ∀ x ∈ xs, PV [p] H m x := by
  rcases h with h | ⟨c, ys, e1, n, h, s⟩
  · exact Bool.noConfusion h
  · cases e1
    rcases h with h | h
    · rw [h] at e; cases e
    · rw [h] at e; cases e; exact ⟨fun z => n (by rw [z]; exact List.mem_singleton.mpr rfl), s⟩
theorem PV.memL {m : Nat} {a : Addr} (h : PV [p] H (m + 1) (.ref a)) : a ≠ p := by
  rcases h with h | ⟨c, ys, e1, n, h, s⟩
  · exact Bool.noConfusion h
  · cases e1
    exact fun z => n (by rw [z]; exact List.mem_singleton.mpr rfl)
theorem tr_kp (k : KpLN [p] H H') (g : PV [p] H 1 v) (h : TR H v b) : TR H' v b := by
  cases h with
  | flat h => exact .flat h
  | lst h => exact .lst (k _ _ (nm_cons g.memL List.not_mem_nil) h lst_ntbl)
  | tupn h n => exact .tupn (k _ _ (nm_cons g.memL List.not_mem_nil) h tup_ntbl) n
  | @tup2 a u v h hu hv =>
    obtain ⟨n, s⟩ := g.mem h
    exact .tup2 (k _ _ (nm_cons n List.not_mem_nil) h tup_ntbl) ((s u (by simp)).kp k).ty ((s v (by simp)).kp k).ty
theorem StQ.kp (k : KpLN [p] H H') (g : PV [p] H 2 v) (h : StQ H v b) : StQ H' v b := by
  obtain ⟨h, q⟩ := h
  refine ⟨?_, fun z => ?_⟩
  · cases h with
    | flat h => exact .flat h
    | lst h => exact .lst (k _ _ (nm_cons g.memL List.not_mem_nil) h lst_ntbl)
    | tupn h n => exact .tupn (k _ _ (nm_cons g.memL List.not_mem_nil) h tup_ntbl) n
    | @tup2 a u v _ _ h hu hv =>
      obtain ⟨n, s⟩ := g.mem h
      exact .tup2 (k _ _ (nm_cons n List.not_mem_nil) h tup_ntbl) (tr_kp k (s u (by simp)) hu) (tr_kp k (s v (by simp)) hv)
  · obtain ⟨a, T, rfl, ⟨r0, r1, h0, h1, h2⟩, o1, o2⟩ := q z
    obtain ⟨n, s⟩ := g.mem h0
    have n0 := (s _ (by simp : V.ref r0 ∈ [V.ref r0, V.ref r1])).mem h1
    have n1 := (s _ (by simp : V.ref r1 ∈ [V.ref r0, V.ref r1])).mem h2
    exact ⟨a, T, rfl, ⟨r0, r1, k _ _ (nm_cons n List.not_mem_nil) h0 tup_ntbl, k _ _ (nm_cons n0.1 List.not_mem_nil) h1 tup_ntbl, k _ _ (nm_cons n1.1 List.not_mem_nil) h2 tup_ntbl⟩, o1, o2⟩
theorem PV.sm {K : PySem.W.Frag} {l : List Addr} : ∀ {n : Nat} {v : V}, PV l H n v → SmV K H n v v
  | 0, _, h => ⟨rfl, scOk.sc h⟩
  | n + 1, v, h => by
    rcases h with h | ⟨a, xs, rfl, m, h | h, s⟩
    · exact .inl ⟨rfl, scOk.sc h⟩
    · exact .inr (.inl ⟨a, a, xs, xs, rfl, rfl, .of h, .of h, rfl, fun i x y e1 e2 => by
        rw [e1] at e2
        cases e2
        exact (s x (List.mem_of_getElem? e1)).sm⟩)
    · exact .inr (.inr ⟨a, a, xs, xs, rfl, rfl, .of h, .of h, rfl, fun i x y e1 e2 => by
        rw [e1] at e2
        cases e2
        exact (s x (List.mem_of_getElem? e1)).sm⟩)
end
def TxR (v : V) : Prop := scalarV v = true ∧ ∀ s, v = .str s → ∃ l : List Nat, s = S l ∧ (∀ c ∈ l, IsB c) ∧ l.length ≤ 100
theorem TbOk.up {m m' : Int} {t : Tb} (h : TbOk m t) (l : m ≤ m') : TbOk m' t := ⟨h.1, by have := h.2.1; omega, h.2.2⟩
def SmallL (H : Hp) (x : V) : Prop := ∀ (a : Addr) (ns : List Int), x = .ref a → H a = some (.lst (ns.map V.int)) → ∀ z ∈ ns, z.natAbs < 10 ^ 55
theorem tsr_ii {H : Hp} {a : Addr} {u v : Int} (h : H a = some (.tup [.int u, .int v])) : TSR H (.ref a) false := show TSR H (.ref a) (false && false) from .tup2 h (.flat rfl) (.flat rfl)
def spStartX : Sp := fun vs H Q _ => ∃ p, vs = [.ref p] ∧ Pool H p ∧ ∀ v b H', PV [p] H' 2 v → StQ H' v b → Pool H' p → Kp p H H' → Q v H'
theorem use_startX {p : Addr} {H : Hp} {Q : VK} {E : XK} (h : Pool H p) (q : ∀ v b H', PV [p] H' 2 v → StQ H' v b → Pool H' p → Kp p H H' → Q v H') : spStartX ([.ref p] ++ []) H Q E := ⟨p, rfl, h, q⟩
def LV (p : Addr) (H : Hp) (v : V) : Prop := scalarV v = true ∨ ∃ a xs, v = .ref a ∧ a ≠ p ∧ LT H a xs ∧ xs.length ≤ 66 ∧ (∀ x ∈ xs, PV [p] H 1 x) ∧ ∀ z : Int, V.int z ∈ xs → z.natAbs < 10 ^ 55
def spListV : Sp := fun vs H Q _ => ∃ p, vs = [.ref p] ∧ Pool H p ∧ ∀ v H', LV p H' v → Pool H' p → Kp p H H' → Q v H'
theorem use_listV {p : Addr} {H : Hp} {Q : VK} {E : XK} (h : Pool H p) (q : ∀ v H', LV p H' v → Pool H' p → Kp p H H' → Q v H') : spListV ([.ref p] ++ []) H Q E := ⟨p, rfl, h, q⟩
section
variable {p : Addr} {H H' : Hp} {v : V}
theorem LV.kp (k : KpLN [p] H H') (h : LV p H v) : LV p H' v := by
  rcases h with h | ⟨a, xs, e, n, h, l, s, z⟩
  · exact .inl h
  · exact .inr ⟨a, xs, e, n, h.kpln k (nm_cons n List.not_mem_nil), l, fun x hx => (s x hx).kp k, z⟩
theorem LV.ne (h : LV p H v) : ∀ a, v = .ref a → a ≠ p := fun a e => by
  rcases h with h | ⟨c, xs, e2, n, _⟩
  · rw [e] at h; exact Bool.noConfusion h
  · rw [e] at e2; cases e2; exact n
theorem LV.small (h : LV p H v) : SmallL H v := fun a ns e e2 z hz => by
  rcases h with h | ⟨c, ys, e3, n, h, l, s, q⟩
  · rw [e] at h; exact Bool.noConfusion h
  · rw [e] at e3; cases e3
    rcases h with h | h
    · rw [h] at e2; cases e2; exact q z (List.mem_map.mpr ⟨z, hz, rfl⟩)
    · rw [h] at e2; cases e2
end
theorem SmallL.ext {H H' : Hp} {x : V} (o : Option V) {n : Nat} (s : LamX.ExtN H H') (b : BZ H n x o) (h : SmallL H x) : SmallL H' x := fun a ns e e2 => by
  refine h a ns e ?_
  cases b with
  | flat f => rw [e] at f; exact Bool.noConfusion f
  | tup f => cases e; rw [s _ _ f tup_ntbl] at e2; cases e2
  | size f _ _ _ => cases e; rw [s _ _ f lst_ntbl] at e2; rw [f]; exact e2
  | item f _ _ _ => cases e; rw [s _ _ f lst_ntbl] at e2; rw [f]; exact e2
section
variable {o : Option V} {m n : Nat} {s f t e : V} {b : Bool} {H : Hp} {x : V}
theorem BZ.le (h : BZ H n x o) (ho : o = none) : n ≤ 64 := by
  subst ho
  obtain ⟨_, _, _, _, _, l⟩ := h.fine
  exact l
theorem TxR.of {v : V} (h : v = .non ∨ (∃ i, v = .int i) ∨ ∃ l : List Nat, v = .str (S l) ∧ (∀ c ∈ l, IsB c) ∧ l.length ≤ 100) : TxR v := by
  rcases h with rfl | ⟨i, rfl⟩ | ⟨l, rfl, h1, h2⟩
  · exact ⟨rfl, fun s e => nomatch e⟩
  · exact ⟨rfl, fun s e => nomatch e⟩
  · exact ⟨rfl, fun s e => ⟨l, (V.str.inj e).symm, h1, h2⟩⟩
end
end Z
namespace Z
open PySem PySem.Spec PyProof.Rows L2 LamX
/-- the object at f is this one -/
def LamO (f : Addr) (ob : Obj) : HO := .ext fun h => h.get? f = some ob
theorem lamO_ntbl {f : Addr} {ob : Obj} (ps : Array Value) : LamO f ob ≠ .tbl ps := fun z => by unfold LamO at z; cases z
/-- what is known of a lambda without parameters: its body's reading is t -/
def IsLam (X : Cx) (k : Nat) (t : XK → TE) (H : Hp) (f : Addr) : Prop := ∃ (params : Arguments) (body : Expr) (scope : Scope) (pm ctv : Value) (c' : Addr), LamS X.env.scope scope ∧ (∀ (q : Str) (cl : List (Str × Addr)) (pm cv ctv : Value), bindArgs (PySem.W.kla_fn "<lambda>" q params body scope cl pm cv ctv) ⟨[], []⟩ = pure []) ∧
  (∀ (A : Around) (outer : List Env) (s : Shared) (H : Hp) (E : XK) (f c' : Addr), Room k (A.deeper (lamEnv X scope s.heap.objs.size f c')) → PE (lamCx X A outer s H E scope f c') body (t E)) ∧
  H f = some (LamO f (PySem.W.kla_obj "<lambda>" (X.env.qual ++ "<lambda>") params body scope (cloFrom X.env.cells scope.names []) pm c' ctv)) ∧ H c' = some (CodeO c' (X.env.qual ++ "<lambda>"))
theorem IsLam.ext {X : Cx} {k : Nat} {t : XK → TE} {H H' : Hp} {f : Addr} (s : ExtN H H') (h : IsLam X k t H f) : IsLam X k t H' f := by
  obtain ⟨p, b, sc, pm, ctv, c', h1, h2, h3, h4, h5⟩ := h
  exact ⟨p, b, sc, pm, ctv, c', h1, h2, h3, s _ _ h4 lamO_ntbl, s _ _ h5 codeO_ne⟩
end Z
namespace Z
open PySem PySem.Spec PyProof.Rows L2
open SX (S S_len S_cat S_inj)
theorem wst_small {ns : List Int} {first : Nat} {T : Tb × Tb} {m : Int} (hn : ∀ z ∈ ns, z.natAbs ≤ 30000) (h1 : TbOk m T.1) (h2 : TbOk m T.2) : ∀ i, i ≤ ns.length → TbOk (m + (i : Int) * 60001) (wst ns first T i).2.1 ∧ TbOk (m + (i : Int) * 60001) (wst ns first T i).2.2
  | 0, _ => ⟨h1.up (by omega), h2.up (by omega)⟩
  | i + 1, hi => by
    obtain ⟨a1, a2⟩ := wst_small (first := first) hn h1 h2 i (by omega)
    have hu : (uOf (ns.getD i 0) : Int) ≤ 60001 := by
      have hz := hn _ (List.getElem_mem (show i < ns.length by omega))
      rw [getD_some (List.getElem?_eq_getElem (show i < ns.length by omega))]
      unfold uOf codeU
      split <;> omega
    have step : ∀ t : Tb, TbOk (m + (i : Int) * 60001) t → TbOk (m + ((i + 1 : Nat) : Int) * 60001) (tbB t (uOf (ns.getD i 0))) := fun t ⟨b1, b2, b3, b4⟩ => by
      unfold tbB
      split
      · exact ⟨by dsimp only; omega, by dsimp only; omega, by dsimp only; omega, by dsimp only; omega⟩
      · exact ⟨by dsimp only; omega, by dsimp only; omega, by dsimp only; omega, by dsimp only; omega⟩
    by_cases c : i < first
    · rw [wst_lo c]
      exact ⟨step _ a1, a2.up (by push_cast; omega)⟩
    · rw [wst_hi c]
      exact ⟨a1.up (by push_cast; omega), step _ a2⟩
def spCounts : Sp := fun vs H Q _ => ∃ n k : Nat, vs = [.int (n : Nat), .int (k : Nat)] ∧ n ≤ 1000 ∧ k ≤ 5 ∧ ∀ D H', H D = none → Same H H' → H' D = some (.lst ((List.range (k + 1)).map fun i => V.int (cc n i : Nat))) → Q (.ref D) H'
theorem use_counts {n k : Nat} {H : Hp} {Q : VK} {E : XK} (hn : n ≤ 1000) (hk : k ≤ 5) (q : ∀ D H', H D = none → Same H H' → H' D = some (.lst ((List.range (k + 1)).map fun i => V.int (cc n i : Nat))) → Q (.ref D) H') : spCounts ([.int (n : Nat), .int (k : Nat)] ++ []) H Q E := ⟨n, k, rfl, hn, hk, q⟩
theorem last_range {α : Type} (f : Nat → α) (k : Nat) : ((List.range (k + 1)).map f)[k]? = some (f k) := by simp
theorem at_last {xs : List V} {v : V} {k : Nat} (hl : xs.length = k + 1) (h : xs[k]? = some v) : atI xs (-1) = some v := by
  have e : ixN xs.length (-1) = some k := by
    rw [hl]
    unfold ixN
    rw [if_neg (by decide), if_pos (by omega)]
    exact congrArg some (by omega)
  unfold atI
  rw [e]
  exact h
def spTabsX : Sp := fun vs H Q _ => ∃ p, vs = [.ref p] ∧ Pool H p ∧ ∀ t T H', TbsH H' t T → TbOk 100 T.1 → TbOk 100 T.2 → Pool H' p → Kp p H H' → Q (.ref t) H'
theorem use_tabsX {p : Addr} {H : Hp} {Q : VK} {E : XK} (h : Pool H p) (q : ∀ t T H', TbsH H' t T → TbOk 100 T.1 → TbOk 100 T.2 → Pool H' p → Kp p H H' → Q (.ref t) H') : spTabsX ([.ref p] ++ []) H Q E := ⟨p, rfl, h, q⟩
def spSomeX : Sp := fun vs H Q _ => ∃ (p : Addr) (n : Nat), vs = [.ref p, .int (n : Nat)] ∧ Pool H p ∧ n ≤ 64 ∧ ∀ D (ns : List Int) H', H D = none → H' D = some (.lst (ns.map V.int)) → ns.length = n → (∀ z ∈ ns, z.natAbs ≤ 30000) → Pool H' p → Kp p H H' → Q (.ref D) H'
theorem use_someX {p : Addr} {n : Nat} {H : Hp} {Q : VK} {E : XK} (h : Pool H p) (hn : n ≤ 64) (q : ∀ D (ns : List Int) H', H D = none → H' D = some (.lst (ns.map V.int)) → ns.length = n → (∀ z ∈ ns, z.natAbs ≤ 30000) → Pool H' p → Kp p H H' → Q (.ref D) H') : spSomeX ([.ref p, .int (n : Nat)] ++ []) H Q E := ⟨p, n, rfl, h, hn, q⟩
/-- length, width, shape, levels, step -/
abbrev Hd := Nat × Nat × Nat × Nat × Nat
def HdAt (H : Hp) (h : Addr) (j : Addr) (d : Hd) : Prop := H h = some (.tup [.int (d.1 : Nat), .ref j, .int (d.2.2.2.1 : Nat), .int (d.2.2.2.2 : Nat)]) ∧ H j = some (.tup [.int (d.2.1 : Nat), .int (d.2.2.1 : Nat)])
def HdOk (d : Hd) : Prop := 1 ≤ d.1 ∧ d.1 ≤ 64 ∧ d.2.1 ≤ 8 ∧ d.2.2.1 ≤ 3 ∧ (d.2.1 = 0 → d.2.2.1 = 0) ∧ d.2.2.2.1 ≤ 5 ∧ 1 ≤ d.2.2.2.2 ∧ d.2.2.2.2 ≤ 64
/-- the bits of a frame -/
def bitsF (d : Hd) (ns : List Int) (T : Tb × Tb) : List Nat := (wst ns (cc d.1 d.2.2.2.1) T ns.length).1.flatten
def nextF (d : Hd) (ns : List Int) (T : Tb × Tb) : Tb × Tb := (wst ns (cc d.1 d.2.2.2.1) T ns.length).2
def FrAt (H : Hp) (r : Addr) (j : Addr) (d : Hd) (ns : List Int) (T : Tb × Tb) : Prop := H r = some (.tup [.str (Str.ofString "frame"), .int (d.1 : Nat), .ref j, .int (d.2.2.2.1 : Nat), .int (d.2.2.2.2 : Nat), .int (markF ns), .str (S (bitsF d ns T))])
def spFrameX (K : PySem.W.Frag) : Sp := fun vs H Q _ => ∃ (h j a b : Addr) (d : Hd) (ns : List Int) (T : Tb × Tb), vs = [.ref h, .ref a, .ref b] ∧ HdAt H h j d ∧ HdOk d ∧ H a = some (.lst (ns.map V.int)) ∧ ns.length = d.1 ∧ (∀ z ∈ ns, z.natAbs ≤ 30000) ∧ TbsV K H b T ∧ TbOk (10 ^ 56) T.1 ∧ TbOk (10 ^ 56) T.2 ∧
  ∀ p r q H', Same H H' → H p = none → H' p = some (.tup [.ref r, .ref q]) → FrAt H' r j d ns T → TbsV K H' q (nextF d ns T) → Q (.ref p) H'
theorem use_frameX {K : PySem.W.Frag} {h j a b : Addr} {d : Hd} {ns : List Int} {T : Tb × Tb} {H : Hp} {Q : VK} {E : XK} (h1 : HdAt H h j d) (h2 : HdOk d) (h3 : H a = some (.lst (ns.map V.int))) (h4 : ns.length = d.1) (h5 : ∀ z ∈ ns, z.natAbs ≤ 30000) (h6 : TbsV K H b T) (o1 : TbOk (10 ^ 56) T.1) (o2 : TbOk (10 ^ 56) T.2)
    (q : ∀ p r q H', Same H H' → H p = none → H' p = some (.tup [.ref r, .ref q]) → FrAt H' r j d ns T → TbsV K H' q (nextF d ns T) → Q (.ref p) H') : spFrameX K ([.ref h, .ref a, .ref b] ++ []) H Q E := ⟨h, j, a, b, d, ns, T, rfl, h1, h2, h3, h4, h5, h6, o1, o2, q⟩
theorem rd_min3 {a b c : Int} {H : Hp} {Q : VK} (h : Q (.int (if c < (if b < a then b else a) then c else (if b < a then b else a))) H) : rNuC3 nuMin3 [.int a, .int b, .int c] H Q := by
  refine ⟨_, _, _, .int (if c < (if b < a then b else a) then c else (if b < a then b else a)), rfl, ?_, h⟩
  have m2 : ∀ x y : Int, nuMin2 (.int x) (.int y) = some (.int (if y < x then y else x)) := fun x y => by
    show (some (decide (y < x))).map (fun c => if c = true then V.int y else V.int x) = _
    by_cases c : y < x
    · rw [if_pos c]; simp [c]
    · rw [if_neg c]; simp [c]
  unfold nuMin3
  rw [m2]
  exact m2 _ _
/-- frames that follow each other: the width at the left end of the first, at the right end of the last -/
def Ch : Nat → List Hd → Nat → Prop
  | l, [], e => l = e
  | l, d :: r, e => HdOk d ∧ l + d.2.1 ≤ d.1 ∧ Ch d.2.1 r e
theorem Ch.snoc {d : Hd} (hd : HdOk d) : ∀ {hs : List Hd} {l e : Nat}, Ch l hs e → e + d.2.1 ≤ d.1 → Ch l (hs ++ [d]) d.2.1
  | [], l, e, h, k => by
    have h : l = e := h
    subst h
    exact ⟨hd, k, rfl⟩
  | c :: r, l, e, ⟨h1, h2, h3⟩, k => ⟨h1, h2, Ch.snoc hd h3 k⟩
def HdsAt (H : Hp) (refs : List V) (hs : List Hd) : Prop := All2 (fun v d => ∃ h j, v = .ref h ∧ HdAt H h j d) refs hs
theorem HdAt.lk {H H' : Hp} {h j : Addr} {d : Hd} (s : LK H H') (k : HdAt H h j d) : HdAt H' h j d := ⟨s _ _ k.1 (fun _ z => nomatch z), s _ _ k.2 (fun _ z => nomatch z)⟩
theorem HdsAt.lk {H H' : Hp} {refs : List V} {hs : List Hd} (s : LK H H') (k : HdsAt H refs hs) : HdsAt H' refs hs := k.imp fun _ _ ⟨h, j, e, q⟩ => ⟨h, j, e, q.lk s⟩
theorem All2.app {α β : Type} {R : α → β → Prop} {as : List α} {bs : List β} {a : α} {b : β} (h : All2 R as bs) (k : R a b) : All2 R (as ++ [a]) (bs ++ [b]) := by
  induction h with
  | nil => exact .cons k .nil
  | cons h _ ih => exact .cons h ih
def spHeads : Sp := fun vs H Q _ => ∃ (p : Addr) (m : Nat), vs = [.ref p, .int (m : Nat)] ∧ Pool H p ∧ m ≤ 20 ∧ ∀ D refs hs H', H D = none → H' D = some (.lst refs) → HdsAt H' refs hs → Ch 0 hs 0 → hs.length = m → Pool H' p → Kp p H H' → Q (.ref D) H'
theorem use_heads {p : Addr} {m : Nat} {H : Hp} {Q : VK} {E : XK} (h : Pool H p) (hm : m ≤ 20) (q : ∀ D refs hs H', H D = none → H' D = some (.lst refs) → HdsAt H' refs hs → Ch 0 hs 0 → hs.length = m → Pool H' p → Kp p H H' → Q (.ref D) H') : spHeads ([.ref p, .int (m : Nat)] ++ []) H Q E := ⟨p, m, rfl, h, hm, q⟩
def nv (n : Nat) : V := .int (n : Nat)
theorem at_nat {zs : List Nat} {j : Nat} {z : Int} (e : z = (j : Int)) (h : j < zs.length) : atI (zs.map nv) z = some (.int (zs.getD j 0 : Nat)) := by
  subst e
  refine atI_nat ?_
  rw [List.getElem?_map, List.getElem?_eq_getElem h, List.getD_eq_getElem?_getD, List.getElem?_eq_getElem h]
  rfl
theorem min3_nat (a b c : Nat) : ∃ mo : Nat, (if (c : Int) < (if (b : Int) < (a : Int) then (b : Int) else (a : Int)) then (c : Int) else (if (b : Int) < (a : Int) then (b : Int) else (a : Int))) = (mo : Int) ∧ mo ≤ a ∧ mo ≤ b ∧ mo ≤ c := by
  by_cases h1 : (b : Int) < (a : Int)
  · rw [if_pos h1]
    by_cases h2 : (c : Int) < (b : Int)
    · rw [if_pos h2]; exact ⟨c, rfl, by omega, by omega, by omega⟩
    · rw [if_neg h2]; exact ⟨b, rfl, by omega, by omega, by omega⟩
  · rw [if_neg h1]
    by_cases h2 : (c : Int) < (a : Int)
    · rw [if_pos h2]; exact ⟨c, rfl, by omega, by omega, by omega⟩
    · rw [if_neg h2]; exact ⟨a, rfl, by omega, by omega, by omega⟩
theorem none_of {p D : Addr} {H G : Hp} (k : Kp p H G) (n : D ≠ p) (h : G D = none) : H D = none := by
  cases z : H D with
  | none => rfl
  | some u => rw [k _ _ n z] at h; cases h
inductive Rc where
  | st (T : Tb × Tb)
  | fr (d : Hd) (ns : List Int) (T : Tb × Tb)
def TkOk (T : Tb × Tb) : Prop := TbOk (10 ^ 50) T.1 ∧ TbOk (10 ^ 50) T.2
def RcAt (K : PySem.W.Frag) (H : Hp) (v : V) : Rc → Prop
  | .st T => ∃ a t, v = .ref a ∧ H a = some (.tup [.str (Str.ofString "state"), .ref t]) ∧ TbsV K H t T
  | .fr d ns T => ∃ a j, v = .ref a ∧ FrAt H a j d ns T ∧ H j = some (.tup [.int (d.2.1 : Nat), .int (d.2.2.1 : Nat)])
theorem RcAt.lk {K : PySem.W.Frag} {H H' : Hp} {v : V} (s : LK H H') : ∀ {r : Rc}, RcAt K H v r → RcAt K H' v r
  | .st T, ⟨a, t, e, h, q⟩ => ⟨a, t, e, s _ _ h (fun _ z => nomatch z), q.lk s⟩
  | .fr d ns T, ⟨a, j, e, h, q⟩ => ⟨a, j, e, s _ _ h (fun _ z => nomatch z), s _ _ q (fun _ z => nomatch z)⟩
def RcsAt (K : PySem.W.Frag) (H : Hp) (vs : List V) (rs : List Rc) : Prop := All2 (RcAt K H) vs rs
theorem RcsAt.lk {K : PySem.W.Frag} {H H' : Hp} {vs : List V} {rs : List Rc} (s : LK H H') (h : RcsAt K H vs rs) : RcsAt K H' vs rs := h.imp fun _ _ q => q.lk s
/-- a row of the index: record, place, frame, left joint, origin -/
abbrev Rw := Nat × Nat × Hd × (Nat × Nat) × Nat
structure Run where
  i : Nat
  pl : Nat
  lj : Nat × Nat
  o : Nat
  rows : List Rw
def stpR (s : Run) : Rc → Run
  | .st _ => ⟨s.i + 1, s.pl, s.lj, s.i, s.rows⟩
  | .fr d _ _ => ⟨s.i + 1, s.pl + d.1, (d.2.1, d.2.2.1), s.o, s.rows ++ [(s.i, s.pl, d, s.lj, s.o)]⟩
def runR (rs : List Rc) : Run := rs.foldl stpR ⟨0, 0, (0, 0), 0, []⟩
theorem runR_snoc (rs : List Rc) (r : Rc) : runR (rs ++ [r]) = stpR (runR rs) r := by unfold runR; rw [List.foldl_append]; rfl
theorem runR_i : ∀ rs : List Rc, (runR rs).i = rs.length := fun rs => by
  have key : ∀ (rs : List Rc) (s : Run), (rs.foldl stpR s).i = s.i + rs.length := by
    intro rs
    induction rs with
    | nil => intro s; rfl
    | cons r rs ih =>
      intro s
      rw [List.foldl_cons, ih, List.length_cons]
      cases r <;> (show s.i + 1 + _ = _; omega)
  have z := key rs ⟨0, 0, (0, 0), 0, []⟩
  rw [Nat.zero_add] at z
  exact z
def JtAt (H : Hp) (j : Addr) (x : Nat × Nat) : Prop := H j = some (.tup [.int (x.1 : Nat), .int (x.2 : Nat)])
def RwAt (H : Hp) (v : V) (r : Rw) : Prop := ∃ a jl j, v = .ref a ∧ H a = some (.tup [.int (r.1 : Nat), .int (r.2.1 : Nat), .int (r.2.2.1.1 : Nat), .ref jl, .ref j, .int (r.2.2.1.2.2.2.1 : Nat), .int (r.2.2.1.2.2.2.2 : Nat), .int (r.2.2.2.2 : Nat)]) ∧ JtAt H jl r.2.2.2.1 ∧ JtAt H j (r.2.2.1.2.1, r.2.2.1.2.2.1)
theorem RwAt.lk {H H' : Hp} {v : V} {r : Rw} (s : LK H H') (h : RwAt H v r) : RwAt H' v r := by
  obtain ⟨a, jl, j, e, h1, h2, h3⟩ := h
  exact ⟨a, jl, j, e, s _ _ h1 (fun _ z => nomatch z), s _ _ h2 (fun _ z => nomatch z), s _ _ h3 (fun _ z => nomatch z)⟩
def RwsAt (H : Hp) (vs : List V) (rs : List Rw) : Prop := All2 (RwAt H) vs rs
theorem RwsAt.lk {H H' : Hp} {vs : List V} {rs : List Rw} (s : LK H H') (h : RwsAt H vs rs) : RwsAt H' vs rs := h.imp fun _ _ q => q.lk s
/-- what is kept of the frames -/
def blkF (kf : Hd → List Int → List Int) : List Rc → List (List Int)
  | [] => []
  | .st _ :: r => blkF kf r
  | .fr d ns _ :: r => kf d ns :: blkF kf r
abbrev kfB : Hd → List Int → List Int := fun d ns => joinL (ns.map (· * (d.2.2.2.2 : Int))) d.2.2.2.1
abbrev kfN : Hd → List Int → List Int := fun _ ns => ns
theorem blkF_snoc (kf : Hd → List Int → List Int) : ∀ (rs : List Rc) (r : Rc), blkF kf (rs ++ [r]) = blkF kf rs ++ blkF kf [r]
  | [], r => rfl
  | .st _ :: rs, r => blkF_snoc kf rs r
  | .fr d ns _ :: rs, r => congrArg (kf d ns :: ·) (blkF_snoc kf rs r)
def BksAt (l : List Addr) (H : Hp) (vs : List V) (bs : List (List Int)) : Prop := All2 (fun v b => ∃ a, v = .ref a ∧ a ∉ l ∧ H a = some (.lst (b.map V.int))) vs bs
theorem BksAt.kp {l : List Addr} {H H' : Hp} {vs : List V} {bs : List (List Int)} (k : KpL l H H') (h : BksAt l H vs bs) : BksAt l H' vs bs := h.imp fun _ _ ⟨a, e, n, q⟩ => ⟨a, e, n, k _ _ n q⟩
/-- records that can be read one after the other: from tables and a width at the left, to tables and a width -/
def Vd : Tb × Tb → Nat → List Rc → Tb × Tb → Nat → Prop
  | T, l, [], T2, l2 => T = T2 ∧ l = l2
  | _, l, .st T' :: r, T2, l2 => TkOk T' ∧ Vd T' l r T2 l2
  | T, l, .fr d ns T0 :: r, T2, l2 => T0 = T ∧ HdOk d ∧ l + d.2.1 ≤ d.1 ∧ ns.length = d.1 ∧ (∀ z ∈ ns, z.natAbs ≤ 10 ^ 45) ∧ TkOk T ∧ Vd (nextF d ns T) d.2.1 r T2 l2
theorem Vd.st' {T' : Tb × Tb} (ok : TkOk T') : ∀ {rs : List Rc} {T : Tb × Tb} {l : Nat} {T2 : Tb × Tb} {l2 : Nat}, Vd T l rs T2 l2 → Vd T l (rs ++ [.st T']) T' l2
  | [], _, _, _, _, ⟨_, e⟩ => ⟨ok, rfl, e⟩
  | .st _ :: _, _, _, _, _, ⟨h, q⟩ => ⟨h, Vd.st' ok q⟩
  | .fr _ _ _ :: _, _, _, _, _, ⟨h1, h2, h3, h4, h5, h6, q⟩ => ⟨h1, h2, h3, h4, h5, h6, Vd.st' ok q⟩
theorem Vd.fr' {d : Hd} {ns : List Int} {T2 : Tb × Tb} {l2 : Nat} (a1 : HdOk d) (a2 : l2 + d.2.1 ≤ d.1) (a3 : ns.length = d.1) (a4 : ∀ z ∈ ns, z.natAbs ≤ 10 ^ 45) (a5 : TkOk T2) : ∀ {rs : List Rc} {T : Tb × Tb} {l : Nat}, Vd T l rs T2 l2 → Vd T l (rs ++ [.fr d ns T2]) (nextF d ns T2) d.2.1
  | [], _, _, ⟨e1, e2⟩ => by
    subst e1 e2
    exact ⟨rfl, a1, a2, a3, a4, a5, rfl, rfl⟩
  | .st _ :: _, _, _, ⟨h, q⟩ => ⟨h, Vd.fr' a1 a2 a3 a4 a5 q⟩
  | .fr _ _ _ :: _, _, _, ⟨h1, h2, h3, h4, h5, h6, q⟩ => ⟨h1, h2, h3, h4, h5, h6, Vd.fr' a1 a2 a3 a4 a5 q⟩
def T0 : Tb × Tb := ((2, 1), (2, 1))
def spStreamF (kf : Hd → List Int → List Int) (K : PySem.W.Frag) : Sp := fun vs H Q _ => ∃ (p : Addr) (m : Nat), vs = [.ref p, .int (m : Nat)] ∧ Pool H p ∧ m ≤ 9 ∧ ∀ L R W B refs rws bks rs T H', H L = none → H R = none → H W = none → H B = none → H' L = some (.lst [.ref R, .ref W, .ref B]) → H' R = some (.lst refs) → H' W = some (.lst rws) → H' B = some (.lst bks) → refs.length ≤ 30 →
  RcsAt K H' refs rs → RwsAt H' rws (runR rs).rows → BksAt [p, R, W, B] H' bks (blkF kf rs) → Vd T0 0 rs T 0 → Pool H' p → Kp p H H' → Q (.ref L) H'
theorem use_streamF {kf : Hd → List Int → List Int} {K : PySem.W.Frag} {p : Addr} {m : Nat} {H : Hp} {Q : VK} {E : XK} (h : Pool H p) (hm : m ≤ 9) (q : ∀ L R W B refs rws bks rs T H', H L = none → H R = none → H W = none → H B = none → H' L = some (.lst [.ref R, .ref W, .ref B]) → H' R = some (.lst refs) → H' W = some (.lst rws) → H' B = some (.lst bks) → refs.length ≤ 30 →
  RcsAt K H' refs rs → RwsAt H' rws (runR rs).rows → BksAt [p, R, W, B] H' bks (blkF kf rs) → Vd T0 0 rs T 0 → Pool H' p → Kp p H H' → Q (.ref L) H') : spStreamF kf K ([.ref p, .int (m : Nat)] ++ []) H Q E := ⟨p, m, rfl, h, hm, q⟩
/-- what the writing of a stream keeps -/
structure SI (kf : Hd → List Int → List Int) (K : PySem.W.Frag) (p R W B : Addr) (H : Hp) (refs rws bks : List V) (rs : List Rc) (T : Tb × Tb) (jl : Addr) (lj : Nat × Nat) (o pl n : Nat) : Prop where
  eR : H R = some (.lst refs)
  eW : H W = some (.lst rws)
  eB : H B = some (.lst bks)
  rc : RcsAt K H refs rs
  rw : RwsAt H rws (runR rs).rows
  bk : BksAt [p, R, W, B] H bks (blkF kf rs)
  vd : Vd T0 0 rs T lj.1
  jt : JtAt H jl lj
  r1 : (runR rs).lj = lj
  r2 : (runR rs).pl = pl
  r3 : (runR rs).o = o
  ln : refs.length = rs.length
  le : rs.length ≤ n
  po : Pool H p
  nRp : R ≠ p
  nWp : W ≠ p
  nBp : B ≠ p
  nRW : R ≠ W
  nRB : R ≠ B
  nWB : W ≠ B
section
variable {kf : Hd → List Int → List Int} {K : PySem.W.Frag} {p R W B jl : Addr} {H H' : Hp} {refs rws bks : List V} {rs : List Rc} {T : Tb × Tb} {lj : Nat × Nat} {o pl n : Nat}
theorem JtAt.lk {j : Addr} {x : Nat × Nat} (s : LK H H') (h : JtAt H j x) : JtAt H' j x := s _ _ h fun _ z => nomatch z
theorem SI.kp (h : SI kf K p R W B H refs rws bks rs T jl lj o pl n) (k : Kp p H H') (hP : Pool H' p) : SI kf K p R W B H' refs rws bks rs T jl lj o pl n :=
  have lk := LK.pool h.po k
  { h with eR := k _ _ h.nRp h.eR, eW := k _ _ h.nWp h.eW, eB := k _ _ h.nBp h.eB, rc := h.rc.lk lk, rw := h.rw.lk lk, bk := h.bk.kp (KpL.ofK List.mem_cons_self k), jt := h.jt.lk lk, po := hP }
theorem SI.new {q : Addr} {u : HO} (h : SI kf K p R W B H refs rws bks rs T jl lj o pl n) (nq : H q = none) : SI kf K p R W B (upd H q u) refs rws bks rs T jl lj o pl n := h.kp (Kp.new nq) (h.po.new nq)
theorem SI.same (h : SI kf K p R W B H refs rws bks rs T jl lj o pl n) (s : Same H H') : SI kf K p R W B H' refs rws bks rs T jl lj o pl n := h.kp (fun a x _ e => s a x e) (h.po.same s)
theorem pool_upd {a : Addr} {u : HO} (ne : a ≠ p) (h : Pool H p) : Pool (upd H a u) p := by
  obtain ⟨x, y, e, r⟩ := h
  exact ⟨x, y, by rw [upd_ne ne.symm]; exact e, r⟩
theorem SI.addSt (h : SI kf K p R W B H refs rws bks rs T jl lj o pl n) {a t : Addr} {T' : Tb × Tb} (ha : H a = some (.tup [.str (Str.ofString "state"), .ref t])) (ht : TbsV K H t T') (ok : TkOk T') : SI kf K p R W B (upd H R (.lst (refs ++ [.ref a]))) (refs ++ [.ref a]) rws bks (rs ++ [.st T']) T' jl lj rs.length pl (n + 1) :=
  have lk : LK H (upd H R (.lst (refs ++ [.ref a]))) := LK.at h.eR
  { eR := upd_same, eW := by rw [upd_ne h.nRW.symm]; exact h.eW, eB := by rw [upd_ne h.nRB.symm]; exact h.eB
    rc := (h.rc.lk lk).app ⟨a, t, rfl, lk _ _ ha (fun _ z => nomatch z), ht.lk lk⟩
    rw := by rw [runR_snoc]; exact h.rw.lk lk
    bk := by rw [blkF_snoc kf, show blkF kf [Rc.st T'] = [] from rfl, List.append_nil]; exact h.bk.kp (KpL.at (by simp))
    vd := h.vd.st' ok, jt := h.jt.lk lk, r1 := by rw [runR_snoc]; exact h.r1, r2 := by rw [runR_snoc]; exact h.r2
    r3 := by rw [runR_snoc]; show (runR rs).i = _; exact runR_i rs
    ln := by rw [List.length_append, List.length_append, h.ln]; rfl, le := by rw [List.length_append]; exact Nat.succ_le_succ h.le
    po := pool_upd h.nRp h.po, nRp := h.nRp, nWp := h.nWp, nBp := h.nBp, nRW := h.nRW, nRB := h.nRB, nWB := h.nWB }
theorem SI.addFr (h : SI kf K p R W B H refs rws bks rs T jl lj o pl n) {H3 : Hp} {w0 r0 j b0 : Addr} {d : Hd} {ns : List Int} (hd : HdOk d) (hw : lj.1 + d.2.1 ≤ d.1) (hl : ns.length = d.1) (hn : ∀ z ∈ ns, z.natAbs ≤ 30000) (ok : TkOk T) (hj : JtAt H j (d.2.1, d.2.2.1)) (fr : FrAt H r0 j d ns T)
    (ew : H w0 = some (.tup [.int (refs.length : Nat), .int (pl : Nat), .int (d.1 : Nat), .ref jl, .ref j, .int (d.2.2.2.1 : Nat), .int (d.2.2.2.2 : Nat), .int (o : Nat)]))
    (s : Same (upd (upd H W (.lst (rws ++ [.ref w0]))) R (.lst (refs ++ [.ref r0]))) H3) (eb : H3 b0 = some (.lst ((kf d ns).map V.int))) (nb : b0 ∉ [p, R, W, B]) :
    SI kf K p R W B (upd H3 B (.lst (bks ++ [.ref b0]))) (refs ++ [.ref r0]) (rws ++ [.ref w0]) (bks ++ [.ref b0]) (rs ++ [.fr d ns T]) (nextF d ns T) j (d.2.1, d.2.2.1) o (pl + d.1) (n + 1) := by
  have lk1 : LK H (upd H W (.lst (rws ++ [.ref w0]))) := LK.at h.eW
  have eR1 : (upd H W (.lst (rws ++ [.ref w0]))) R = some (.lst refs) := by rw [upd_ne h.nRW]; exact h.eR
  have lk2 : LK (upd H W (.lst (rws ++ [.ref w0]))) (upd (upd H W (.lst (rws ++ [.ref w0]))) R (.lst (refs ++ [.ref r0]))) := LK.at eR1
  have eB3 : H3 B = some (.lst bks) := s _ _ (by rw [upd_ne h.nRB.symm, upd_ne h.nWB.symm]; exact h.eB)
  have lk4 : LK H3 (upd H3 B (.lst (bks ++ [.ref b0]))) := LK.at eB3
  have lk : LK H (upd H3 B (.lst (bks ++ [.ref b0]))) := ((lk1.trans lk2).trans (.of s)).trans lk4
  have kL : KpL [p, R, W, B] H (upd H3 B (.lst (bks ++ [.ref b0]))) := (((KpL.at (by simp)).trans (KpL.at (by simp))).trans (KpL.ofS s)).trans (KpL.at (by simp))
  have hrow : (stpR (runR rs) (.fr d ns T)).rows = (runR rs).rows ++ [(refs.length, pl, d, lj, o)] := by
    show (runR rs).rows ++ [((runR rs).i, (runR rs).pl, d, (runR rs).lj, (runR rs).o)] = _
    rw [runR_i, h.r1, h.r2, h.r3, h.ln]
  exact
  { eR := by rw [upd_ne h.nRB]; exact s _ _ upd_same
    eW := by rw [upd_ne h.nWB]; exact s _ _ (by rw [upd_ne h.nRW.symm]; exact upd_same)
    eB := upd_same
    rc := (h.rc.lk lk).app ⟨r0, j, rfl, lk _ _ fr (fun _ z => nomatch z), lk _ _ hj (fun _ z => nomatch z)⟩
    rw := by
      rw [runR_snoc, hrow]
      exact (h.rw.lk lk).app ⟨w0, jl, j, rfl, lk _ _ ew (fun _ z => nomatch z), h.jt.lk lk, hj.lk lk⟩
    bk := by
      rw [blkF_snoc kf]
      exact (h.bk.kp kL).app ⟨b0, rfl, nb, by rw [upd_ne (fun z => nb (by rw [z]; simp))]; exact eb⟩
    vd := Vd.fr' hd hw hl (fun z hz => Nat.le_trans (hn z hz) (by decide)) ok h.vd
    jt := hj.lk lk
    r1 := by rw [runR_snoc]; rfl
    r2 := by rw [runR_snoc]; show (runR rs).pl + d.1 = _; rw [h.r2]
    r3 := by rw [runR_snoc]; exact h.r3
    ln := by rw [List.length_append, List.length_append, h.ln]; rfl
    le := by rw [List.length_append]; exact Nat.succ_le_succ h.le
    po := pool_upd h.nBp ((pool_upd h.nRp (pool_upd h.nWp h.po)).same s)
    nRp := h.nRp, nWp := h.nWp, nBp := h.nBp, nRW := h.nRW, nRB := h.nRB, nWB := h.nWB }
end
theorem next_ok {d : Hd} {ns : List Int} {T : Tb × Tb} {m : Int} (hl : ns.length = d.1) (h64 : d.1 ≤ 64) (hn : ∀ z ∈ ns, z.natAbs ≤ 30000) (h1 : TbOk m T.1) (h2 : TbOk m T.2) : TbOk (m + 3840064) (nextF d ns T).1 ∧ TbOk (m + 3840064) (nextF d ns T).2 := by
  obtain ⟨a, b⟩ := wst_small (first := cc d.1 d.2.2.2.1) hn h1 h2 ns.length (Nat.le_refl _)
  exact ⟨a.up (by omega), b.up (by omega)⟩
theorem SI.up {kf : Hd → List Int → List Int} {K : PySem.W.Frag} {p R W B jl : Addr} {H : Hp} {refs rws bks : List V} {rs : List Rc} {T : Tb × Tb} {lj : Nat × Nat} {o pl n m : Nat} (h : SI kf K p R W B H refs rws bks rs T jl lj o pl n) (k : n ≤ m) : SI kf K p R W B H refs rws bks rs T jl lj o pl m := { h with le := Nat.le_trans h.le k }
theorem tok_of {m : Int} {T : Tb × Tb} (h1 : TbOk m T.1) (h2 : TbOk m T.2) (k : m ≤ 10 ^ 9) : TkOk T := ⟨h1.up (Int.le_trans k (by decide)), h2.up (Int.le_trans k (by decide))⟩
theorem rows_le (rs : List Rc) : (runR rs).rows.length ≤ rs.length := by
  have key : ∀ (rs : List Rc) (s : Run), (rs.foldl stpR s).rows.length ≤ s.rows.length + rs.length := by
    intro rs
    induction rs with
    | nil => intro s; exact Nat.le_refl _
    | cons r rs ih =>
      intro s
      rw [List.foldl_cons, List.length_cons]
      have := ih (stpR s r)
      cases r with
      | st T => exact Nat.le_trans this (by show s.rows.length + _ ≤ _; omega)
      | fr d ns T => exact Nat.le_trans this (by show (s.rows ++ [_]).length + _ ≤ _; rw [List.length_append]; simp only [List.length_cons, List.length_nil]; omega)
  have z : (runR rs).rows.length ≤ 0 + rs.length := key rs ⟨0, 0, (0, 0), 0, []⟩
  omega
theorem blk_le (kf : Hd → List Int → List Int) : ∀ rs : List Rc, (blkF kf rs).length ≤ rs.length
  | [] => Nat.le_refl _
  | .st _ :: r => Nat.le_succ_of_le (blk_le kf r)
  | .fr _ _ _ :: r => Nat.succ_le_succ (blk_le kf r)
theorem SI.lw {kf : Hd → List Int → List Int} {K : PySem.W.Frag} {p R W B jl : Addr} {H : Hp} {refs rws bks : List V} {rs : List Rc} {T : Tb × Tb} {lj : Nat × Nat} {o pl n : Nat} (h : SI kf K p R W B H refs rws bks rs T jl lj o pl n) : refs.length ≤ n ∧ rws.length ≤ n ∧ bks.length ≤ n := by
  have a := h.rw.len
  have b := h.bk.len
  have c := rows_le rs
  have d := blk_le kf rs
  have e := h.le
  have f := h.ln
  exact ⟨by omega, by omega, by omega⟩
end Z
namespace Z
open PySem PySem.Spec PyProof.Rows L2
open SX (S S_len S_cat S_inj)
structure Mn (K : PySem.W.Frag) (C : Addr) (x q : Str) (st : Stmt) (ps : List Str) (f : Addr) (fd : FuncData) : Prop where
  F : Fun K x q st f fd
  m : Meth K C x f
  b : Binds K fd ps []
structure StmC (K : PySem.W.Frag) (mg : Str → Option Value) (C : Addr) : Prop where
  cl : Cls K C
  g : mg "Stream" = some (.ref C)
  mks : PySem.W.makesIn K C = true
  kc : PySem.W.keepIn K (.ref C) = true
  nh : NoAttr K C "held"
  nr : NoAttr K C "read"
theorem rd_decT {p : Prop} [Decidable p] {H : Hp} {Q : VK} (h : p) (q : Q (.bl true) H) : Q (.bl (decide p)) H := by rw [decide_eq_true h]; exact q
def spIsB : Sp := fun vs H Q _ => ∃ l : List Nat, vs = [.str (S l)] ∧ (∀ c ∈ l, IsB c) ∧ l.length ≤ 1000000 ∧ Q (.bl true) H
theorem use_isb {l : List Nat} {H : Hp} {Q : VK} {E : XK} (h1 : ∀ c ∈ l, IsB c) (h2 : l.length ≤ 1000000) (q : Q (.bl true) H) : spIsB ([.str (S l)] ++ []) H Q E := ⟨l, rfl, h1, h2, q⟩
def spIsLay : Sp := fun vs H Q _ => ∃ (a j : Addr) (d : Hd), vs = [.ref a] ∧ HdAt H a j d ∧ HdOk d ∧ Q (.bl true) H
theorem use_islay {a j : Addr} {d : Hd} {H : Hp} {Q : VK} {E : XK} (h : HdAt H a j d) (ok : HdOk d) (q : Q (.bl true) H) : spIsLay ([.ref a] ++ []) H Q E := ⟨a, j, d, rfl, h, ok, q⟩
/-- a record that is valid -/
def RcOk : Rc → Prop
  | .st T => TkOk T
  | .fr d ns T => HdOk d ∧ ns.length = d.1 ∧ (∀ z ∈ ns, z.natAbs ≤ 10 ^ 45) ∧ TkOk T
def isSt : Rc → Bool
  | .st _ => true
  | .fr _ _ _ => false
def spIsSt (K : PySem.W.Frag) : Sp := fun vs H Q _ => ∃ v r, vs = [v] ∧ RcAt K H v r ∧ RcOk r ∧ Q (.bl (isSt r)) H
theorem use_isst {K : PySem.W.Frag} {v : V} {r : Rc} {H : Hp} {Q : VK} {E : XK} (h : RcAt K H v r) (ok : RcOk r) (q : Q (.bl (isSt r)) H) : spIsSt K ([v] ++ []) H Q E := ⟨v, r, rfl, h, ok, q⟩
def spIsFr (K : PySem.W.Frag) : Sp := fun vs H Q _ => ∃ v d ns T, vs = [v] ∧ RcAt K H v (.fr d ns T) ∧ RcOk (.fr d ns T) ∧ ∀ H', Same H H' → Q (.bl true) H'
theorem use_isfr {K : PySem.W.Frag} {v : V} {d : Hd} {ns : List Int} {T : Tb × Tb} {H : Hp} {Q : VK} {E : XK} (h : RcAt K H v (.fr d ns T)) (ok : RcOk (.fr d ns T)) (q : ∀ H', Same H H' → Q (.bl true) H') : spIsFr K ([v] ++ []) H Q E := ⟨v, d, ns, T, rfl, h, ok, q⟩
def spIsRc (K : PySem.W.Frag) : Sp := fun vs H Q _ => ∃ v r, vs = [v] ∧ RcAt K H v r ∧ RcOk r ∧ ∀ H', Same H H' → Q (.bl true) H'
theorem bitsF_len {d : Hd} {ns : List Int} {T : Tb × Tb} (ok : RcOk (.fr d ns T)) : (bitsF d ns T).length ≤ 1000000 ∧ ∀ c ∈ bitsF d ns T, IsB c := by
  obtain ⟨h1, h2, h3, h4, h5⟩ := ok
  refine ⟨?_, wst_bin _ _ _ _⟩
  have z := wst_flat (first := cc d.1 d.2.2.2.1) (fun z hz => Nat.lt_of_le_of_lt (h3 z hz) (by decide)) (h4.up (by decide : (10:Int) ^ 50 ≤ 10 ^ 58)) (h5.up (by decide : (10:Int) ^ 50 ≤ 10 ^ 58)) ns.length (by have := h1.2.1; omega)
  have := h1.2.1
  unfold bitsF
  omega
/-- index, place, head, left joint, numbers, tables -/
abbrev Fm := Nat × Nat × Hd × (Nat × Nat) × List Int × (Tb × Tb)
def frR : Nat → Nat → (Nat × Nat) → List Rc → List Fm
  | _, _, _, [] => []
  | i, pl, lj, .st _ :: r => frR (i + 1) pl lj r
  | i, pl, lj, .fr d ns T :: r => (i, pl, d, lj, ns, T) :: frR (i + 1) (pl + d.1) (d.2.1, d.2.2.1) r
def JtV (K : PySem.W.Frag) (H : Hp) (j : Addr) (x : Nat × Nat) : Prop := TupV K H j [.int (x.1 : Nat), .int (x.2 : Nat)]
theorem JtAt.v {K : PySem.W.Frag} {H : Hp} {j : Addr} {x : Nat × Nat} (h : JtAt H j x) : JtV K H j x := TupV.of h
theorem JtV.lk {K : PySem.W.Frag} {H H' : Hp} {j : Addr} {x : Nat × Nat} (s : LK H H') (h : JtV K H j x) : JtV K H' j x := TupV.lk s h
def FmAt (K : PySem.W.Frag) (l : List Addr) (H : Hp) (v : V) (f : Fm) : Prop := ∃ a b jl j m t q, v = .ref a ∧ H a = some (.tup [.ref b, .ref m, .ref t, .ref q]) ∧ H b = some (.tup [.int (f.1 : Nat), .int (f.2.1 : Nat), .int (f.2.2.1.1 : Nat), .ref jl, .ref j]) ∧ JtV K H jl f.2.2.2.1 ∧ JtAt H j (f.2.2.1.2.1, f.2.2.1.2.2.1) ∧
  m ∉ l ∧ H m = some (.lst (f.2.2.2.2.1.map V.int)) ∧ TbsV K H t f.2.2.2.2.2 ∧ TbsV K H q (nextF f.2.2.1 f.2.2.2.2.1 f.2.2.2.2.2)
theorem FmAt.kp {K : PySem.W.Frag} {l : List Addr} {H H' : Hp} {v : V} {f : Fm} (s : LK H H') (k : KpL l H H') (h : FmAt K l H v f) : FmAt K l H' v f := by
  obtain ⟨a, b, jl, j, m, t, q, e, h1, h2, h3, h4, h5, h6, h7, h8⟩ := h
  exact ⟨a, b, jl, j, m, t, q, e, s _ _ h1 (fun _ z => nomatch z), s _ _ h2 (fun _ z => nomatch z), h3.lk s, h4.lk s, h5, k _ _ h5 h6, h7.lk s, h8.lk s⟩
theorem FmAt.same {K : PySem.W.Frag} {l : List Addr} {H H' : Hp} {v : V} {f : Fm} (s : Same H H') (h : FmAt K l H v f) : FmAt K l H' v f := h.kp (.of s) (.ofS s)
theorem FmAt.out {K : PySem.W.Frag} {l : List Addr} {H : Hp} {v : V} {f : Fm} (h : FmAt K l H v f) : FmAt K [] H v f := by
  obtain ⟨a, b, jl, j, m, t, q, e, h1, h2, h3, h4, h5, h⟩ := h
  exact ⟨a, b, jl, j, m, t, q, e, h1, h2, h3, h4, List.not_mem_nil, h⟩
def FmsAt (K : PySem.W.Frag) (l : List Addr) (H : Hp) (vs : List V) (fs : List Fm) : Prop := All2 (FmAt K l H) vs fs
theorem Vd.ok : ∀ {rs : List Rc} {T : Tb × Tb} {l : Nat} {T2 : Tb × Tb} {l2 : Nat}, Vd T l rs T2 l2 → ∀ r ∈ rs, RcOk r
  | [], _, _, _, _, _, r, h => absurd h List.not_mem_nil
  | .st T' :: rs, _, _, _, _, ⟨h, q⟩, r, hm => by
    rcases List.mem_cons.mp hm with rfl | hm
    · exact h
    · exact Vd.ok q r hm
  | .fr d ns T' :: rs, _, _, _, _, ⟨e, h2, h3, h4, h5, h6, q⟩, r, hm => by
    rcases List.mem_cons.mp hm with rfl | hm
    · subst e; exact ⟨h2, h4, h5, h6⟩
    · exact Vd.ok q r hm
theorem All2.drop_head {α β : Type} {R : α → β → Prop} {as : List α} {bs : List β} (h : All2 R as bs) {i : Nat} {a : α} (e : as[i]? = some a) : ∃ b r, R a b ∧ bs.drop i = b :: r ∧ bs.drop (i + 1) = r ∧ b ∈ bs := by
  obtain ⟨b, r, h1, h2, h3⟩ := h.get _ _ e
  exact ⟨b, r, h1, h2, h3, List.mem_of_mem_drop (i := i) (by rw [h2]; exact List.mem_cons_self)⟩
structure FI (K : PySem.W.Frag) (F : Addr) (H0 H : Hp) (rs : List Rc) (Te : Tb × Tb) (i : Nat) (fms : List V) (dn : List Fm) (t : Addr) (T : Tb × Tb) (pl : Nat) (jl : Addr) (lj : Nat × Nat) : Prop where
  eF : H F = some (.lst fms)
  nF : H0 F = none
  fm : FmsAt K [F] H fms dn
  sp : frR 0 0 (0, 0) rs = dn ++ frR i pl lj (rs.drop i)
  vd : Vd T lj.1 (rs.drop i) Te 0
  jt : JtV K H jl lj
  j0 : lj.1 = 0 → lj.2 = 0
  tb : TbsV K H t T
  sm : Same H0 H
  le : dn.length ≤ i
section
variable {K : PySem.W.Frag} {F t jl : Addr} {H0 H H' : Hp} {rs : List Rc} {Te T : Tb × Tb} {i pl : Nat} {fms : List V} {dn : List Fm} {lj : Nat × Nat}
theorem FI.same (h : FI K F H0 H rs Te i fms dn t T pl jl lj) (s : Same H H') : FI K F H0 H' rs Te i fms dn t T pl jl lj :=
  { h with eF := s _ _ h.eF, fm := h.fm.imp fun _ _ q => q.same s, jt := h.jt.lk (.of s), tb := h.tb.lk (.of s), sm := h.sm.trans s }
theorem FI.len (h : FI K F H0 H rs Te i fms dn t T pl jl lj) : fms.length ≤ i := by rw [h.fm.len]; exact h.le
theorem FI.st (h : FI K F H0 H rs Te i fms dn t T pl jl lj) {T' : Tb × Tb} {r : List Rc} (e : rs.drop i = .st T' :: r) (e' : rs.drop (i + 1) = r) {t' : Addr} (ht : TbsV K H t' T') : FI K F H0 H rs Te (i + 1) fms dn t' T' pl jl lj := by
  have sp := h.sp
  have vd := h.vd
  rw [e] at sp vd
  exact { h with sp := by rw [e']; exact sp, vd := by rw [e']; exact vd.2, tb := ht, le := Nat.le_succ_of_le h.le }
theorem FI.fr (h : FI K F H0 H rs Te i fms dn t T pl jl lj) {d : Hd} {ns : List Int} {T0 : Tb × Tb} {r : List Rc} (e : rs.drop i = .fr d ns T0 :: r) (e' : rs.drop (i + 1) = r) {v : V} {q j : Addr} (hv : FmAt K [F] H v (i, pl, d, lj, ns, T)) (hj : JtAt H j (d.2.1, d.2.2.1)) (hq : TbsV K H q (nextF d ns T)) :
    FI K F H0 (upd H F (.lst (fms ++ [v]))) rs Te (i + 1) (fms ++ [v]) (dn ++ [(i, pl, d, lj, ns, T)]) q (nextF d ns T) (pl + d.1) j (d.2.1, d.2.2.1) := by
  have sp := h.sp
  have vd := h.vd
  rw [e] at sp vd
  obtain ⟨rfl, v2, v3, v4, v5, v6, v7⟩ := vd
  have lk : LK H (upd H F (.lst (fms ++ [v]))) := LK.at h.eF
  have kp : KpL [F] H (upd H F (.lst (fms ++ [v]))) := KpL.at (by simp)
  exact { eF := upd_same, nF := h.nF, fm := (h.fm.imp fun _ _ q => q.kp lk kp).app (hv.kp lk kp)
          sp := by rw [e', sp, List.append_assoc]; rfl
          vd := by rw [e']; exact v7
          jt := (hj.lk lk).v, j0 := v2.2.2.2.2.1, tb := hq.lk lk
          sm := fun b o eb => by rw [upd_ne (ne_of_none eb h.nF)]; exact h.sm _ _ eb
          le := by rw [List.length_append]; exact Nat.succ_le_succ h.le }
end
/-- a list of numbers is not the list of frames -/
theorem ne_fms {F m : Addr} {H : Hp} {fms : List V} {ns : List Int} (hF : H F = some (.lst fms)) (hm : H m = some (.lst (ns.map V.int))) (h1 : 1 ≤ ns.length) (hr : ∀ v ∈ fms, ∃ a, v = .ref a) : m ≠ F := fun z => by
  rw [z, hF] at hm
  cases ns with
  | nil => simp at h1
  | cons n ns =>
    have e := HO.lst.inj (Option.some.inj hm)
    obtain ⟨a, ha⟩ := hr _ (by rw [e]; exact List.mem_cons_self)
    cases ha
theorem fms_ref {K : PySem.W.Frag} {l : List Addr} {H : Hp} {vs : List V} {fs : List Fm} (h : FmsAt K l H vs fs) : ∀ v ∈ vs, ∃ a, v = .ref a := by
  induction h with
  | nil => exact fun v h => absurd h List.not_mem_nil
  | cons h _ ih =>
    intro v hv
    rcases List.mem_cons.mp hv with rfl | hv
    · obtain ⟨a, b, jl, j, m, t, q, e, _⟩ := h
      exact ⟨a, e⟩
    · exact ih v hv
def LKI (H H' : Hp) : Prop := ∀ b o, H b = some o → (∀ xs, o ≠ .lst xs) → (∀ C dx fs, o ≠ .ins C dx fs) → H' b = some o
theorem LK.i {H H' : Hp} (s : LK H H') : LKI H H' := fun b o e n _ => s b o e n
theorem LKI.ofK {x C dx : Addr} {fs : List (Str × V)} {H H' : Hp} (hx : H x = some (.ins C dx fs)) (k : Kp x H H') : LKI H H' := fun b o e _ n => k b o (fun z => by
  rw [z, hx] at e
  exact n _ _ _ (Option.some.inj e).symm) e
theorem TupV.lki {K : PySem.W.Frag} {H H' : Hp} {a : Addr} {xs : List V} (s : LKI H H') (h : TupV K H a xs) : TupV K H' a xs := by
  obtain ⟨h1, h2⟩ := h
  refine ⟨?_, ?_⟩
  · rcases h1 with (h | ⟨o, h⟩) | h
    · exact .inl (.inl (s _ _ h (fun _ z => nomatch z) (fun _ _ _ z => nomatch z)))
    · exact .inl (.inr ⟨o, s _ _ h (fun _ z => nomatch z) (fun _ _ _ z => nomatch z)⟩)
    · exact .inr h
  · generalize ht : (Value.type "tuple") = t at h2 ⊢
    cases h2 with
    | base b =>
      cases b with
      | lst e => exact absurd ht (by decide)
      | frz e => exact absurd ht (by decide)
      | tup e => exact .base (.tup (s _ _ e (fun _ z => nomatch z) (fun _ _ _ z => nomatch z)))
      | dK e => exact absurd ht (by decide)
      | dT e => exact absurd ht (by decide)
      | ins e => cases ht
    | set e => exact absurd ht (by decide)
    | kList e c => exact .kList e c
    | kTuple e c => exact .kTuple e c
    | kDict e c => exact .kDict e c
    | fTuple e => exact .fTuple (s _ _ e (fun _ z => nomatch z) (fun _ _ _ z => nomatch z))
    | fDict e => exact absurd ht (by decide)
section
variable {K : PySem.W.Frag} {H H' : Hp}
theorem TbsV.lki {a : Addr} {T : Tb × Tb} (s : LKI H H') (h : TbsV K H a T) : TbsV K H' a T := let ⟨r0, r1, h0, h1, h2⟩ := h; ⟨r0, r1, h0.lki s, TupV.lki s h1, TupV.lki s h2⟩
theorem JtV.lki {j : Addr} {x : Nat × Nat} (s : LKI H H') (h : JtV K H j x) : JtV K H' j x := TupV.lki s h
theorem JtAt.lki {j : Addr} {x : Nat × Nat} (s : LKI H H') (h : JtAt H j x) : JtAt H' j x := s _ _ h (fun _ z => nomatch z) (fun _ _ _ z => nomatch z)
theorem RcAt.lki {v : V} (s : LKI H H') : ∀ {r : Rc}, RcAt K H v r → RcAt K H' v r
  | .st T, ⟨a, t, e, h, q⟩ => ⟨a, t, e, s _ _ h (fun _ z => nomatch z) (fun _ _ _ z => nomatch z), q.lki s⟩
  | .fr d ns T, ⟨a, j, e, h, q⟩ => ⟨a, j, e, s _ _ h (fun _ z => nomatch z) (fun _ _ _ z => nomatch z), s _ _ q (fun _ z => nomatch z) (fun _ _ _ z => nomatch z)⟩
theorem RcsAt.lki {vs : List V} {rs : List Rc} (s : LKI H H') (h : RcsAt K H vs rs) : RcsAt K H' vs rs := h.imp fun _ _ q => q.lki s
theorem FmAt.lki {l : List Addr} {v : V} {f : Fm} (s : LKI H H') (k : ∀ m ns, H m = some (.lst ns) → H' m = some (.lst ns)) (h : FmAt K l H v f) : FmAt K l H' v f := by
  obtain ⟨a, b, jl, j, m, t, q, e, h1, h2, h3, h4, h5, h6, h7, h8⟩ := h
  exact ⟨a, b, jl, j, m, t, q, e, s _ _ h1 (fun _ z => nomatch z) (fun _ _ _ z => nomatch z), s _ _ h2 (fun _ z => nomatch z) (fun _ _ _ z => nomatch z), h3.lki s, h4.lki s, h5, k _ _ h6, h7.lki s, h8.lki s⟩
end
theorem held_ (L : Addr) : (putF "held" (.ref L) []).lookup ("held" : Str) = some (V.ref L) := by
  rw [lookup_putF, if_pos rfl]
def sf (L F : Addr) : List (Str × V) := putF "read" (.ref F) (putF "held" (.ref L) [])
def StmAt (K : PySem.W.Frag) (C : Addr) (H : Hp) (x : Addr) (refs : List V) (rs : List Rc) : Prop := ∃ dx L F fms Te, H x = some (.ins C dx (sf L F)) ∧ H L = some (.lst refs) ∧ refs.length ≤ 400 ∧ RcsAt K H refs rs ∧ Vd T0 0 rs Te 0 ∧ H F = some (.lst fms) ∧ FmsAt K [] H fms (frR 0 0 (0, 0) rs)
theorem StmAt.same {K : PySem.W.Frag} {C x : Addr} {H H' : Hp} {refs : List V} {rs : List Rc} (s : Same H H') (h : StmAt K C H x refs rs) : StmAt K C H' x refs rs := by
  obtain ⟨dx, L, F, fms, Te, h1, h2, h3, h4, h5, h6, h7⟩ := h
  exact ⟨dx, L, F, fms, Te, s _ _ h1, s _ _ h2, h3, h4.lk (.of s), h5, s _ _ h6, h7.imp fun _ _ q => q.same s⟩
def BlAt (K : PySem.W.Frag) (H : Hp) (b : Addr) (f : Fm) : Prop := ∃ jl j, H b = some (.tup [.int (f.1 : Nat), .int (f.2.1 : Nat), .int (f.2.2.1.1 : Nat), .ref jl, .ref j]) ∧ JtV K H jl f.2.2.2.1 ∧ JtAt H j (f.2.2.1.2.1, f.2.2.1.2.2.1)
section
variable {K : PySem.W.Frag} {mg : Str → Option Value} {σ : L2.St} {H : Hp} {Q : VK} {C x L F dx : Addr} {ta : TE}
theorem rd_setF {n : L2.St → Hp → Prop} {r : VK} {b c : L2.St → Hp → Prop} {tv : TE} {f : Str} {i : Nat} (h : tv σ H fun y H1 => ∃ x C dx fs, σ[i]? = some (some (.ref x)) ∧ H1 x = some (.ins C dx fs) ∧ Cls K C ∧ NoAttr K C f ∧ fs.length < 1000 ∧ n σ (upd H1 x (.ins C dx (putF f y fs)))) : sFld K (tVar i) tv f ⟨n, r, b, c⟩ σ H := by
  show tv σ H fun y H1 => ∃ v, σ[i]? = some (some v) ∧ ∃ a C dx fs, v = .ref a ∧ H1 a = some (.ins C dx fs) ∧ Cls K C ∧ NoAttr K C f ∧ fs.length < 1000 ∧ n σ (upd H1 a (.ins C dx (putF f y fs)))
  have e : (fun y H1 => ∃ x C dx fs, σ[i]? = some (some (V.ref x)) ∧ H1 x = some (.ins C dx fs) ∧ Cls K C ∧ NoAttr K C f ∧ fs.length < 1000 ∧ n σ (upd H1 x (.ins C dx (putF f y fs)))) = (fun (y : V) (H1 : Hp) => ∃ v, σ[i]? = some (some v) ∧ ∃ a C dx fs, v = V.ref a ∧ H1 a = some (.ins C dx fs) ∧ Cls K C ∧ NoAttr K C f ∧ fs.length < 1000 ∧ n σ (upd H1 a (.ins C dx (putF f y fs)))) := by
    funext y H1
    refine propext ⟨?_, ?_⟩
    · rintro ⟨x, C, dx, fs, e, h⟩
      exact ⟨_, e, x, C, dx, fs, rfl, h⟩
    · rintro ⟨v, e, x, C, dx, fs, rfl, h⟩
      exact ⟨x, C, dx, fs, e, h⟩
  rw [← e]
  exact h
end
def rowsF : Nat → Nat → (Nat × Nat) → Nat → List Rc → List Rw
  | _, _, _, _, [] => []
  | i, pl, lj, _, .st _ :: r => rowsF (i + 1) pl lj i r
  | i, pl, lj, o, .fr d _ _ :: r => (i, pl, d, lj, o) :: rowsF (i + 1) (pl + d.1) (d.2.1, d.2.2.1) o r
theorem run_rows : ∀ (rs : List Rc) (s : Run), (rs.foldl stpR s).rows = s.rows ++ rowsF s.i s.pl s.lj s.o rs
  | [], s => by rw [show rowsF s.i s.pl s.lj s.o [] = [] from rfl, List.append_nil]; rfl
  | .st T :: rs, s => by
    rw [List.foldl_cons, run_rows rs]
    rfl
  | .fr d ns T :: rs, s => by
    rw [List.foldl_cons, run_rows rs]
    show s.rows ++ [(s.i, s.pl, d, s.lj, s.o)] ++ _ = _
    rw [List.append_assoc]
    rfl
theorem runR_rows (rs : List Rc) : (runR rs).rows = rowsF 0 0 (0, 0) 0 rs := run_rows rs ⟨0, 0, (0, 0), 0, []⟩
def RwV (K : PySem.W.Frag) (H : Hp) (v : V) (r : Rw) : Prop := ∃ a jl j, v = .ref a ∧ H a = some (.tup [.int (r.1 : Nat), .int (r.2.1 : Nat), .int (r.2.2.1.1 : Nat), .ref jl, .ref j, .int (r.2.2.1.2.2.2.1 : Nat), .int (r.2.2.1.2.2.2.2 : Nat), .int (r.2.2.2.2 : Nat)]) ∧ JtV K H jl r.2.2.2.1 ∧ JtAt H j (r.2.2.1.2.1, r.2.2.1.2.2.1)
theorem RwV.lk {K : PySem.W.Frag} {H H' : Hp} {v : V} {r : Rw} (s : LK H H') (h : RwV K H v r) : RwV K H' v r := by
  obtain ⟨a, jl, j, e, h1, h2, h3⟩ := h
  exact ⟨a, jl, j, e, s _ _ h1 (fun _ z => nomatch z), h2.lk s, h3.lk s⟩
theorem RwAt.v {K : PySem.W.Frag} {H : Hp} {v : V} {r : Rw} (h : RwAt H v r) : RwV K H v r := by
  obtain ⟨a, jl, j, e, h1, h2, h3⟩ := h
  exact ⟨a, jl, j, e, h1, h2.v, h3⟩
def RwsV (K : PySem.W.Frag) (H : Hp) (vs : List V) (rs : List Rw) : Prop := All2 (RwV K H) vs rs
structure II (K : PySem.W.Frag) (D : Addr) (H0 H : Hp) (rs : List Rc) (i : Nat) (idx : List V) (dn : List Rw) (fd : List Fm) (pl : Nat) (lj : Nat × Nat) (o : Nat) : Prop where
  eD : H D = some (.lst idx)
  nD : H0 D = none
  ix : RwsV K H idx dn
  s1 : rowsF 0 0 (0, 0) 0 rs = dn ++ rowsF i pl lj o (rs.drop i)
  s2 : frR 0 0 (0, 0) rs = fd ++ frR i pl lj (rs.drop i)
  ln : dn.length = fd.length
  sm : Same H0 H
  le : dn.length ≤ i
section
variable {K : PySem.W.Frag} {D : Addr} {H0 H H' : Hp} {rs : List Rc} {i pl o : Nat} {idx : List V} {dn : List Rw} {fd : List Fm} {lj : Nat × Nat}
theorem II.same (h : II K D H0 H rs i idx dn fd pl lj o) (s : Same H H') : II K D H0 H' rs i idx dn fd pl lj o :=
  { h with eD := s _ _ h.eD, ix := h.ix.imp fun _ _ q => q.lk (.of s), sm := h.sm.trans s }
theorem II.len (h : II K D H0 H rs i idx dn fd pl lj o) : idx.length ≤ i := by rw [h.ix.len]; exact h.le
theorem II.st (h : II K D H0 H rs i idx dn fd pl lj o) {T' : Tb × Tb} {r : List Rc} (e : rs.drop i = .st T' :: r) (e' : rs.drop (i + 1) = r) : II K D H0 H rs (i + 1) idx dn fd pl lj i := by
  have s1 := h.s1
  have s2 := h.s2
  rw [e] at s1 s2
  exact { h with s1 := by rw [e']; exact s1, s2 := by rw [e']; exact s2, le := Nat.le_succ_of_le h.le }
theorem II.at (h : II K D H0 H rs i idx dn fd pl lj o) {d : Hd} {ns : List Int} {T : Tb × Tb} {r : List Rc} (e : rs.drop i = .fr d ns T :: r) : (frR 0 0 (0, 0) rs)[idx.length]? = some (i, pl, d, lj, ns, T) := by
  have s2 := h.s2
  rw [e] at s2
  rw [s2, h.ix.len, h.ln, List.getElem?_append_right (Nat.le_refl _), Nat.sub_self]
  rfl
theorem II.fr (h : II K D H0 H rs i idx dn fd pl lj o) {d : Hd} {ns : List Int} {T : Tb × Tb} {r : List Rc} (e : rs.drop i = .fr d ns T :: r) (e' : rs.drop (i + 1) = r) {v : V} (hv : RwV K H v (i, pl, d, lj, o)) :
    II K D H0 (upd H D (.lst (idx ++ [v]))) rs (i + 1) (idx ++ [v]) (dn ++ [(i, pl, d, lj, o)]) (fd ++ [(i, pl, d, lj, ns, T)]) (pl + d.1) (d.2.1, d.2.2.1) o := by
  have s1 := h.s1
  have s2 := h.s2
  rw [e] at s1 s2
  have lk : LK H (upd H D (.lst (idx ++ [v]))) := LK.at h.eD
  exact { eD := upd_same, nD := h.nD, ix := (h.ix.imp fun _ _ q => q.lk lk).app (hv.lk lk)
          s1 := by rw [e', s1, List.append_assoc]; rfl
          s2 := by rw [e', s2, List.append_assoc]; rfl
          ln := by rw [List.length_append, List.length_append, h.ln]; rfl
          sm := fun b x eb => by rw [upd_ne (ne_of_none eb h.nD)]; exact h.sm _ _ eb
          le := by rw [List.length_append]; exact Nat.succ_le_succ h.le }
end
theorem RwsAt.v {K : PySem.W.Frag} {H : Hp} {vs : List V} {rs : List Rw} (h : RwsAt H vs rs) : RwsV K H vs rs := h.imp fun _ _ q => q.v
theorem RwsV.lk {K : PySem.W.Frag} {H H' : Hp} {vs : List V} {rs : List Rw} (s : LK H H') (h : RwsV K H vs rs) : RwsV K H' vs rs := h.imp fun _ _ q => q.lk s
theorem rd_glst {K : PySem.W.Frag} {σ : L2.St} {H : Hp} {a : Addr} {xs : List V} {k : Nat} {ts : TGs} {q : L2.St → Hp → Prop} (e : SqL K H a xs) (l : xs.length = k) (h : ts xs σ H q) : gLst K k ts (.ref a) σ H q := ⟨a, xs, rfl, e, l, h⟩
theorem rd_mk {σ : L2.St} {H : Hp} {Q : VK} {C : Addr} {sp : Sp} {dvs : List V} {E : XK} {t : TA} (h : t σ H fun vs H1 => ∀ (x dx : Addr), H1 x = none → H1 dx = none → dx ≠ x → sp (.ref x :: (vs ++ dvs)) (upd (upd H1 dx (.own x)) x (.ins C dx [])) (fun v H2 => v = .non ∧ Q (.ref x) H2) E) : tMake C sp dvs E t σ H Q := h
end Z
namespace Z
open PySem PySem.Spec PyProof.Rows L2
section
variable {σ : L2.St} {H : Hp} {n : L2.St → Hp → Prop} {r : VK} {b c : L2.St → Hp → Prop} {te : TE}
theorem rd_aug {i : Nat} {ti : TIp} {x : V} (e : σ[i]? = some (some x)) (h : te σ H fun y H1 => ti x y H1 fun z H2 => n (σ.set i (some z)) H2) : tAug i te ti ⟨n, r, b, c⟩ σ H := ⟨x, e, h⟩
theorem rd_ipI {f : Int → Int → Int} {i j : Int} {Q : VK} (h : Q (.int (f i j)) H) : ipI f (.int i) (.int j) H Q := ⟨i, j, rfl, rfl, h⟩
end
def spTakeB : Sp := fun vs H Q _ => ∃ (p : Addr) (m : Int), vs = [.ref p, .int m] ∧ Pool H p ∧ 0 < m ∧ m < 18446744073709551616 ∧ ∀ r H', 0 ≤ r → r < m → Pool H' p → Kp p H H' → Q (.int r) H'
theorem use_takeB {p : Addr} {m : Int} {H : Hp} {Q : VK} {E : XK} (h1 : Pool H p) (h2 : 0 < m) (h3 : m < 18446744073709551616) (q : ∀ r H', 0 ≤ r → r < m → Pool H' p → Kp p H H' → Q (.int r) H') : spTakeB ([.ref p, .int m] ++ []) H Q E := ⟨p, m, rfl, h1, h2, h3, q⟩
abbrev Sz := Int × Int
def SzAt (H : Hp) (v : V) (s : Sz) : Prop := ∃ a, v = .ref a ∧ H a = some (.tup [.int s.1, .int s.2])
def SzsAt (H : Hp) (vs : List V) (ss : List Sz) : Prop := All2 (SzAt H) vs ss
def LKT (H H' : Hp) : Prop := ∀ b o, H b = some o → (∀ xs, o ≠ .lst xs) → H' b = some o
theorem SzsAt.lk {H H' : Hp} {vs : List V} {ss : List Sz} (s : LKT H H') (h : SzsAt H vs ss) : SzsAt H' vs ss := h.imp fun _ _ ⟨a, e, q⟩ => ⟨a, e, s _ _ q (fun _ z => nomatch z)⟩
theorem LKT.of {H H' : Hp} (s : Same H H') : LKT H H' := fun b o e _ => s b o e
theorem LKT.new {H : Hp} {q : Addr} {o : HO} (n : H q = none) : LKT H (upd H q o) := .of (same_new n)
theorem LKT.trans {H H1 H2 : Hp} (a : LKT H H1) (b : LKT H1 H2) : LKT H H2 := fun x o e n => b x o (a x o e n) n
theorem LKT.at {H : Hp} {q : Addr} {o : HO} {ys : List V} (n : H q = some (.lst ys)) : LKT H (upd H q o) := fun b x e nl => by
  rw [upd_ne (fun z => by rw [z, n] at e; cases e; exact nl _ rfl)]
  exact e
theorem SzsAt.same {H H' : Hp} {vs : List V} {ss : List Sz} (s : Same H H') (h : SzsAt H vs ss) : SzsAt H' vs ss := h.lk (.of s)
theorem All2.at_ {α β : Type} {R : α → β → Prop} {as : List α} {bs : List β} (h : All2 R as bs) : ∀ (i : Nat) (a : α), as[i]? = some a → ∃ b, bs[i]? = some b ∧ R a b ∧ bs.drop i = b :: bs.drop (i + 1) := by
  induction h with
  | nil => intro i a e; simp at e
  | @cons a b as bs h t ih =>
    intro i x e
    cases i with
    | zero => cases e; exact ⟨b, rfl, h, rfl⟩
    | succ i => exact ih i x e
end Z
namespace Z
open PySem PySem.Spec PyProof.Rows L2
def rend (r : Rw) : Nat := r.2.1 + r.2.2.1.1
def rnear (r : Rw) : Int := (r.2.1 : Int) - (r.2.2.2.1.1 : Int)
def rfar (r : Rw) : Int := (r.2.1 : Int) + (r.2.2.1.1 : Int) + (r.2.2.1.2.1 : Int)
def lenW (rows : List Rw) : Nat := match rows.getLast? with
  | none => 0
  | some r => rend r
structure RwO (r : Rw) : Prop where
  o : r.2.2.2.2 ≤ r.1
  l1 : 1 ≤ r.2.2.1.1
  l2 : r.2.2.1.1 ≤ 64
  w : r.2.2.1.2.1 ≤ 8
  v : r.2.2.2.1.1 ≤ 8
structure RunO (s : Run) : Prop where
  each : ∀ r ∈ s.rows, RwO r ∧ r.1 < s.i ∧ r.2.2.2.2 ≤ s.o ∧ rend r ≤ s.pl
  asc : s.rows.Pairwise fun a b => a.1 < b.1 ∧ a.2.2.2.2 ≤ b.2.2.2.2
  last : lenW s.rows = s.pl
  oi : s.o ≤ s.i
  pl : s.pl ≤ 64 * s.rows.length
  lj : s.lj.1 ≤ 8
  le : s.rows.length ≤ s.i
theorem RunO.step {s : Run} {r : Rc} (h : RunO s) (ok : RcOk r) : RunO (stpR s r) := by
  cases r with
  | st T =>
    exact { each := fun r hr => by
              obtain ⟨a, b, c, d⟩ := h.each r hr
              exact ⟨a, by show r.1 < s.i + 1; omega, by show _ ≤ s.i; have := a.o; omega, d⟩
            asc := h.asc, last := h.last, oi := Nat.le_succ s.i, pl := h.pl, lj := h.lj, le := Nat.le_succ_of_le h.le }
  | fr d ns T =>
    obtain ⟨hd, _, _, _⟩ := id ok
    obtain ⟨d1, d2, d3, _⟩ := hd
    have hlen : (s.rows ++ [(s.i, s.pl, d, s.lj, s.o)]).length = s.rows.length + 1 := by simp
    exact { each := fun r hr => by
              rcases List.mem_append.mp hr with hr | hr
              · obtain ⟨a, b, c, e⟩ := h.each r hr
                exact ⟨a, by show r.1 < s.i + 1; omega, c, by show _ ≤ s.pl + d.1; omega⟩
              · rw [List.mem_singleton.mp hr]
                exact ⟨⟨h.oi, d1, d2, d3, h.lj⟩, Nat.lt_succ_self _, Nat.le_refl _, Nat.le_refl _⟩
            asc := by
              show (s.rows ++ [(s.i, s.pl, d, s.lj, s.o)]).Pairwise _
              rw [List.pairwise_append]
              refine ⟨h.asc, List.pairwise_singleton _ _, fun a ha b hb => ?_⟩
              rw [List.mem_singleton.mp hb]
              exact ⟨(h.each a ha).2.1, (h.each a ha).2.2.1⟩
            last := by
              show lenW (s.rows ++ [(s.i, s.pl, d, s.lj, s.o)]) = s.pl + d.1
              unfold lenW
              rw [List.getLast?_append]
              rfl
            oi := Nat.le_succ_of_le h.oi
            pl := by
              show s.pl + d.1 ≤ 64 * (s.rows ++ [(s.i, s.pl, d, s.lj, s.o)]).length
              rw [hlen]
              have := h.pl
              omega
            lj := d3
            le := by
              show (s.rows ++ [(s.i, s.pl, d, s.lj, s.o)]).length ≤ s.i + 1
              rw [hlen]
              have := h.le
              omega }
theorem RunO.fold : ∀ (rs : List Rc) (s : Run), RunO s → (∀ r ∈ rs, RcOk r) → RunO (rs.foldl stpR s)
  | [], _, h, _ => h
  | r :: rs, s, h, ok => RunO.fold rs _ (h.step (ok r List.mem_cons_self)) fun x hx => ok x (List.mem_cons_of_mem _ hx)
theorem runO {rs : List Rc} (ok : ∀ r ∈ rs, RcOk r) : RunO (runR rs) := RunO.fold rs _ { each := fun r hr => (List.not_mem_nil hr).elim, asc := .nil, last := rfl, oi := Nat.le_refl _, pl := Nat.le_refl _, lj := Nat.zero_le _, le := Nat.le_refl _ } ok
def selW (s e : Int) (r : Rw) : Bool := decide (rnear r < e) && decide (s < rfar r)
def ndW (s e : Int) (rows : List Rw) : List Rw := if s = e then [] else rows.filter (selW s e)
end Z
namespace Z
open PySem PySem.Spec PyProof.Rows L2
theorem RwV.same {K : PySem.W.Frag} {H H' : Hp} {v : V} {r : Rw} (s : Same H H') (h : RwV K H v r) : RwV K H' v r := h.lk (.of s)
theorem RwsV.same {K : PySem.W.Frag} {H H' : Hp} {vs : List V} {rs : List Rw} (s : Same H H') (h : RwsV K H vs rs) : RwsV K H' vs rs := h.imp fun _ _ q => q.same s
/-- rows that stand in order -/
structure RowsO (rows : List Rw) : Prop where
  each : ∀ r ∈ rows, RwO r ∧ r.1 < 40
  asc : rows.Pairwise fun a b => a.1 < b.1 ∧ a.2.2.2.2 ≤ b.2.2.2.2
theorem RunO.rows {s : Run} (h : RunO s) (i : s.i ≤ 40) : RowsO s.rows := ⟨fun r hr => ⟨(h.each r hr).1, by have := (h.each r hr).2.1; omega⟩, h.asc⟩
end Z
namespace Z
open PySem PySem.Spec PyProof.Rows L2
def ixsW (f : Rw → Bool) (rows : List Rw) (i : Nat) : List Nat := (List.range i).filter fun j => match rows[j]? with
  | some r => f r
  | none => false
theorem RowsO.near {rows : List Rw} (o : RowsO rows) {r : Rw} (h : r ∈ rows) : rnear r < rfar r := by
  have := (o.each r h).1.l1
  unfold rnear rfar
  omega
end Z
namespace Z
open PySem PySem.Spec PyProof.Rows L2
theorem for_signs {x : Str} {g : TG} {tb : TS} {D : Ends} {σ : L2.St} {H : Hp} (Pv : Nat → L2.St → Hp → Prop) (h0 : Pv 0 σ H)
    (hs : ∀ i c σ H, x.cps[i]? = some c → Pv i σ H → g (.str ⟨#[c]⟩) σ H fun σ2 H2 => tb { D with nx := Pv (i + 1), ct := Pv (i + 1), bk := D.nx } σ2 H2) (hd : ∀ σ H, Pv x.cps.size σ H → D.nx σ H) : LpW (Its x) g tb D σ H := by
  refine ⟨fun i m σ H => m = x.cps.size - i ∧ i ≤ x.cps.size ∧ Pv i σ H, ⟨x.cps.size, by simp, Nat.zero_le _, h0⟩, ?_⟩
  rintro i m σ H ⟨rfl, hi, p⟩
  by_cases hlt : i < x.cps.size
  · refine .inr ⟨hlt, Pv (i + 1), fun σ' H' p' => ⟨x.cps.size - (i + 1), by omega, rfl, hlt, p'⟩, fun v H' y => ?_⟩
    obtain ⟨rfl, c, e, rfl⟩ := y
    exact hs i c σ _ e p
  · have e : i = x.cps.size := by omega
    subst e
    exact .inl ⟨Nat.le_refl _, hd σ H p⟩
/-- how a check grows by one sign -/
def chk1 (c : Int) (s : Nat) : Int := (c * 41 + Txt.find (Str.ofString "0123456789abcdefghijklmnopqrstuvwxyz -") ⟨#[s]⟩ + 1) % 1000003
def chkL (c : Int) (ss : List Nat) : Int := ss.foldl chk1 c
def chkS (c : Int) (x : Str) : Int := chkL c x.cps.toList
theorem chk_take {x : Str} {i s : Nat} (c : Int) (h : x.cps[i]? = some s) : chkL c (x.cps.toList.take (i + 1)) = chk1 (chkL c (x.cps.toList.take i)) s := by
  unfold chkL
  rw [List.take_add_one, show x.cps.toList[i]? = some s by rw [Array.getElem?_toList]; exact h, List.foldl_append]
  rfl
theorem chk1_le (c : Int) (s : Nat) : 0 ≤ chk1 c s ∧ chk1 c s < 1000003 := ⟨Int.emod_nonneg _ (by decide), Int.emod_lt_of_pos _ (by decide)⟩
theorem chkL_le {c : Int} (h : 0 ≤ c ∧ c < 1000003) : ∀ ss : List Nat, 0 ≤ chkL c ss ∧ chkL c ss < 1000003 := by
  intro ss
  unfold chkL
  induction ss generalizing c with
  | nil => exact h
  | cons s t ih => exact ih (chk1_le c s)
def spChkB : Sp := fun vs H Q _ => ∃ (x : Str) (c : Int), vs = [.str x, .int c] ∧ (0 ≤ c ∧ c < 1000003) ∧ Q (.int (chkS c x)) H
theorem use_chkB {x : Str} {c : Int} {H : Hp} {Q : VK} {E : XK} (h : 0 ≤ c ∧ c < 1000003) (q : Q (.int (chkS c x)) H) : spChkB ([.str x, .int c] ++ []) H Q E := ⟨x, c, rfl, h, q⟩
def spChkL : Sp := fun vs H Q _ => ∃ (x : Str) (c : Int), vs = [.int c, .str x] ∧ (0 ≤ c ∧ c < 1000003) ∧ Q (.int (chkS c x)) H
theorem use_chkL {x : Str} {c : Int} {H : Hp} {Q : VK} {E : XK} (h : 0 ≤ c ∧ c < 1000003) (q : Q (.int (chkS c x)) H) : spChkL ([.int c, .str x] ++ []) H Q E := ⟨x, c, rfl, h, q⟩
theorem chk_end (c : Int) (x : Str) : chkL c (x.cps.toList.take x.cps.size) = chkS c x := by
  unfold chkS
  rw [List.take_of_length_le (by rw [Array.length_toList]; exact Nat.le_refl _)]
theorem rd_forX {te : TE} {g : TG} {tb : TS} {D : Ends} {σ : L2.St} {H : Hp} (h : te σ H fun v H1 => ∃ x, v = .str x ∧ LpW (Its x) g tb D σ H1) : tFor (iStr te) g tb D σ H := h
/-- the words of a record -/
def numsR : Rc → List Int
  | .st T => [T.1.1, T.1.2, T.2.1, T.2.2]
  | .fr d ns T => [d.1, d.2.1, d.2.2.1, d.2.2.2.1, d.2.2.2.2, markF ns]
def wordsR : Rc → List Str
  | .st T => Str.ofString "state" :: ((numsR (.st T)).map fun z => ((toString z : String) : Str))
  | .fr d ns T => Str.ofString "frame" :: ((numsR (.fr d ns T)).map fun z => ((toString z : String) : Str)) ++ [SX.S (bitsF d ns T)]
def spBody (K : PySem.W.Frag) : Sp := fun vs H Q _ => ∃ (v : V) (r : Rc), vs = [v] ∧ RcAt K H v r ∧ RcOk r ∧ ∀ H', Same H H' → Q (.str (Txt.join (Str.ofString " ") (wordsR r))) H'
theorem use_body {K : PySem.W.Frag} {v : V} {r : Rc} {H : Hp} {Q : VK} {E : XK} (h : RcAt K H v r) (ok : RcOk r) (q : ∀ H', Same H H' → Q (.str (Txt.join (Str.ofString " ") (wordsR r))) H') : spBody K ([v] ++ []) H Q E := ⟨v, r, rfl, h, ok, q⟩
theorem log_le {i : Int} (h : i.natAbs < 2 ^ 200) : i.natAbs.log2 < 1920 := by
  by_cases z : i.natAbs = 0
  · rw [z]; decide
  · exact Nat.lt_trans ((Nat.log2_lt z).mpr h) (by decide)
theorem txt_join_le (sep : Str) (ws : List Str) : (Txt.join sep ws).length ≤ (ws.map (·.length)).sum + ws.length * sep.length := by
  show (Builtin.Str.glued sep ws).length ≤ _
  rw [StrLaws.glued_eq_join]
  exact StrLaws.join_length_le sep ws
theorem sum_le {l : List Nat} {b : Nat} (h : ∀ x ∈ l, x ≤ b) : l.sum ≤ l.length * b := by
  induction l with
  | nil => exact Nat.zero_le _
  | cons x l ih =>
    have h1 := h x List.mem_cons_self
    have h2 := ih fun y hy => h y (List.mem_cons_of_mem _ hy)
    rw [List.sum_cons, List.length_cons, Nat.succ_mul]
    omega
theorem rd_joinX {K : PySem.W.Frag} {H : Hp} {Q : VK} {p : Addr} {x : Str} {ys : List Str} (hp : SqL K H p (ys.map V.str)) (hl : (ys.map (·.length)).sum + ys.length * x.length ≤ 16777216) (h : Q (.str (Txt.join x ys)) H) : rJoin K (.str x) [.ref p] H Q := ⟨x, p, ys, rfl, rfl, .inl hp, hl, h⟩
theorem int_len {i : Int} (h : i.natAbs < 2 ^ 200) : (((toString i : String) : Str)).length ≤ 1921 := int_text_len_1921 (log_le h)
theorem bits_len {d : Hd} {ns : List Int} {T : Tb × Tb} (ok : RcOk (.fr d ns T)) : (bitsF d ns T).length ≤ 64000 := by
  obtain ⟨h1, h2, h3, h4, h5⟩ := ok
  have z := wst_flat (first := cc d.1 d.2.2.2.1) (fun z hz => Nat.lt_of_le_of_lt (h3 z hz) (by decide)) (h4.up (by decide : (10:Int) ^ 50 ≤ 10 ^ 58)) (h5.up (by decide : (10:Int) ^ 50 ≤ 10 ^ 58)) ns.length (by have := h1.2.1; omega)
  have := h1.2.1
  unfold bitsF
  omega
theorem nums_small {r : Rc} (ok : RcOk r) : ∀ z ∈ numsR r, z.natAbs < 2 ^ 200 := by
  cases r with
  | st T =>
    obtain ⟨⟨a1, a2, a3, a4⟩, b1, b2, b3, b4⟩ := ok
    intro z hz
    simp only [numsR, List.mem_cons, List.not_mem_nil, or_false] at hz
    rcases hz with rfl | rfl | rfl | rfl <;> omega
  | fr d ns T =>
    obtain ⟨⟨h1, h2, h3, h4, h5, h6, h7, h8⟩, _⟩ := ok
    have hm := markF_bound ns
    intro z hz
    simp only [numsR, List.mem_cons, List.not_mem_nil, or_false] at hz
    rcases hz with rfl | rfl | rfl | rfl | rfl | rfl <;> omega
theorem words_fit {r : Rc} (ok : RcOk r) : ((wordsR r).map (·.length)).sum + (wordsR r).length * (Str.ofString " ").length ≤ 80000 := by
  have hn := nums_small ok
  have hs : (Str.ofString "state").length = 5 := by decide +kernel
  have hf : (Str.ofString "frame").length = 5 := by decide +kernel
  have ho : (Str.ofString " ").length = 1 := by decide +kernel
  have hz := sum_le (l := ((numsR r).map fun z => ((toString z : String) : Str)).map (·.length)) (b := 1921) fun x hx => by
    obtain ⟨w, hw, rfl⟩ := List.mem_map.mp hx
    obtain ⟨z, hz, rfl⟩ := List.mem_map.mp hw
    exact int_len (hn z hz)
  rw [List.length_map, List.length_map] at hz
  rw [ho]
  cases r with
  | st T =>
    have e : (numsR (Rc.st T)).length = 4 := rfl
    unfold wordsR
    rw [List.map_cons, List.sum_cons, List.length_cons, List.length_map, hs]
    omega
  | fr d ns T =>
    have e : (numsR (Rc.fr d ns T)).length = 6 := rfl
    have bl := bits_len ok
    unfold wordsR
    rw [List.map_append, List.sum_append, List.length_append, List.map_cons, List.sum_cons, List.length_cons, List.length_map, hf, List.map_cons, List.map_nil, List.sum_cons, List.sum_nil, List.length_cons, List.length_nil, SX.S_len]
    omega
def bodyR (r : Rc) : Str := Txt.join (Str.ofString " ") (wordsR r)
theorem body_len {r : Rc} (ok : RcOk r) : (bodyR r).length ≤ 80000 := Nat.le_trans (txt_join_le _ _) (words_fit ok)
def lineS (b : Str) (c : Int) : Str := b ++ Str.ofString " #" ++ ((toString c : String) : Str)
def chkR (c : Int) (rs : List Rc) : Int := rs.foldl (fun c r => chkS c (bodyR r)) c
def linesR : Int → List Rc → List Str
  | _, [] => []
  | c, r :: rs => lineS (bodyR r) (chkS c (bodyR r)) :: linesR (chkS c (bodyR r)) rs
theorem linesR_snoc : ∀ (c : Int) (rs : List Rc) (r : Rc), linesR c (rs ++ [r]) = linesR c rs ++ [lineS (bodyR r) (chkS (chkR c rs) (bodyR r))]
  | _, [], _ => rfl
  | c, x :: rs, r => congrArg (lineS (bodyR x) (chkS c (bodyR x)) :: ·) (linesR_snoc _ rs r)
theorem chkR_snoc (c : Int) (rs : List Rc) (r : Rc) : chkR c (rs ++ [r]) = chkS (chkR c rs) (bodyR r) := by
  unfold chkR
  rw [List.foldl_append]
  rfl
theorem chkR_le : ∀ (rs : List Rc) (c : Int), 0 ≤ c → c < 1000003 → 0 ≤ chkR c rs ∧ chkR c rs < 1000003
  | [], c, h0, h1 => ⟨h0, h1⟩
  | r :: rs, c, h0, h1 =>
    have h := chkL_le (c := c) ⟨h0, h1⟩ (bodyR r).cps.toList
    chkR_le rs (chkS c (bodyR r)) h.1 h.2
theorem linesR_length : ∀ (c : Int) (rs : List Rc), (linesR c rs).length = rs.length
  | _, [] => rfl
  | _, _ :: rs => congrArg (· + 1) (linesR_length _ rs)
theorem line_len {r : Rc} {c : Int} (ok : RcOk r) (h0 : 0 ≤ c) (h1 : c < 1000003) : (lineS (bodyR r) c).length ≤ 85000 := by
  have h2 := body_len ok
  have h3 : (((toString c : String) : Str)).length ≤ 1921 := int_len (by omega)
  unfold lineS
  rw [Str.length_append, Str.length_append, show (Str.ofString " #").length = 2 by decide +kernel]
  omega
theorem encB_pos (u k : Nat) : 1 ≤ (encB u k).length := by
  unfold encB
  split
  · simp only [List.length_append, List.length_cons, List.length_nil]
    omega
  · simp only [List.length_append, List.length_cons, List.length_nil]
    omega
theorem bits_pos {d : Hd} {ns : List Int} {T : Tb × Tb} (ok : RcOk (.fr d ns T)) : 1 ≤ (bitsF d ns T).length := by
  obtain ⟨h1, h2, _⟩ := ok
  obtain ⟨n, hn⟩ : ∃ n, ns.length = n + 1 := ⟨ns.length - 1, by have := h1.1; omega⟩
  unfold bitsF
  rw [hn]
  by_cases c : n < cc d.1 d.2.2.2.1
  · rw [wst_lo c]
    dsimp only
    rw [List.flatten_append, List.length_append, List.flatten_cons, List.flatten_nil, List.append_nil]
    have := encB_pos (uOf (ns.getD n 0)) (par (wst ns (cc d.1 d.2.2.2.1) T n).2.1.1 (wst ns (cc d.1 d.2.2.2.1) T n).2.1.2)
    omega
  · rw [wst_hi c]
    dsimp only
    rw [List.flatten_append, List.length_append, List.flatten_cons, List.flatten_nil, List.append_nil]
    have := encB_pos (uOf (ns.getD n 0)) (par (wst ns (cc d.1 d.2.2.2.1) T n).2.2.1 (wst ns (cc d.1 d.2.2.2.1) T n).2.2.2)
    omega
theorem lc_strL {K : PySem.W.Frag} {σ : L2.St} {Q : VK} {vs : List Nat} {k : Nat} {a D : Addr} {xs : List Int} {H1 : Hp} {te : TE} (hS : SqL K H1 a (xs.map V.int)) (hn : xs.length ≤ 1000) (hw : ∀ v, wipe ((wipe σ vs).set k (some v)) vs = wipe σ vs) (hD : H1 D = none)
    (turn : ∀ z ∈ xs, ∀ (H : Hp) (Q' : VK), Same H1 H → Q' (.str (toString z)) H → te ((wipe σ vs).set k (some (.int z))) H Q')
    (q : ∀ H', Same H1 H' → H' D = some (.lst (xs.map fun z => V.str (toString z))) → Q (.ref D) H') : LcW (Itl K a) (gName k) tYes te vs Q σ H1 D := by
  refine lc_list (xs := xs.map V.int) (Pv := fun j H => Same H1 H ∧ H D = some (.lst ((xs.map fun z => V.str (toString z)).take j))) ⟨same_new hD, upd_same⟩ (fun j H _ hI => hI.1.seq hS) (fun j v H hv hI => ?_) (fun H hI => ?_)
  · obtain ⟨hs, hd⟩ := hI
    rw [List.getElem?_map] at hv
    cases e : xs[j]? with
    | none => rw [e] at hv; cases hv
    | some z =>
      rw [e] at hv
      obtain rfl := (Option.some.inj hv).symm
      have hj := (List.getElem?_eq_some_iff.mp e).1
      refine ⟨hw _, rd_yes ?_⟩
      refine turn z (List.mem_of_getElem? e) H _ hs ⟨_, hd, small1000 (by rw [List.length_take, List.length_map]; omega), ?_, ?_⟩
      · exact fun b o e => by rw [upd_ne (ne_of_none e hD)]; exact hs _ _ e
      · rw [upd_same, List.take_add_one, List.getElem?_map, e]
        rfl
  · obtain ⟨hs, hd⟩ := hI
    rw [List.take_of_length_le (by rw [List.length_map, List.length_map]; exact Nat.le_refl _)] at hd
    exact q H hs hd
theorem take_snocD {α : Type} {xs : List α} {i : Nat} {x : α} {r : List α} (h : xs.drop i = x :: r) : xs.take (i + 1) = xs.take i ++ [x] := by
  have e : xs[i]? = some x := by
    have := congrArg (fun l => l[0]?) h
    simpa using this
  rw [List.take_add_one, e]
  rfl
theorem join_fit {rs : List Rc} (ok : ∀ r ∈ rs, RcOk r) (l : rs.length ≤ 40) : ((linesR 1 rs).map (·.length)).sum + (linesR 1 rs).length * (Str.ofString "\n").length ≤ 16777216 := by
  have key : ∀ (rs : List Rc) (c : Int), (∀ r ∈ rs, RcOk r) → 0 ≤ c → c < 1000003 → ∀ w ∈ linesR c rs, w.length ≤ 85000 := by
    intro rs
    induction rs with
    | nil => exact fun c _ _ _ w h => (List.not_mem_nil h).elim
    | cons r rs ih =>
      intro c ok h0 h1 w hw
      have hc := chkL_le (c := c) ⟨h0, h1⟩ (bodyR r).cps.toList
      rcases List.mem_cons.mp hw with rfl | hw
      · exact line_len (ok r List.mem_cons_self) hc.1 hc.2
      · exact ih _ (fun r' hr => ok r' (List.mem_cons_of_mem _ hr)) hc.1 hc.2 w hw
  have h1 := sum_le (l := (linesR 1 rs).map (·.length)) (b := 85000) fun x hx => by
    obtain ⟨w, hw, rfl⟩ := List.mem_map.mp hx
    exact key rs 1 ok (by decide) (by decide) w hw
  rw [List.length_map, linesR_length] at h1
  rw [linesR_length, show (Str.ofString "\n").length = 1 by decide +kernel]
  have h2 : rs.length * 85000 ≤ 40 * 85000 := Nat.mul_le_mul_right _ l
  omega
def spLines (K : PySem.W.Frag) : Sp := fun vs H Q _ => ∃ (a : Addr) (refs : List V) (rs : List Rc), vs = [.ref a] ∧ H a = some (.lst refs) ∧ RcsAt K H refs rs ∧ (∀ r ∈ rs, RcOk r) ∧ refs.length ≤ 40 ∧ ∀ D H', H D = none → Same H H' → H' D = some (.lst ((linesR 1 rs).map V.str)) → Q (.ref D) H'
theorem use_lines {K : PySem.W.Frag} {a : Addr} {refs : List V} {rs : List Rc} {H : Hp} {Q : VK} {E : XK} (h : H a = some (.lst refs)) (hR : RcsAt K H refs rs) (ok : ∀ r ∈ rs, RcOk r) (l : refs.length ≤ 40) (q : ∀ D H', H D = none → Same H H' → H' D = some (.lst ((linesR 1 rs).map V.str)) → Q (.ref D) H') : spLines K ([.ref a] ++ []) H Q E := ⟨a, refs, rs, rfl, h, hR, ok, l, q⟩
theorem str_S (x : Str) : x = SX.S x.cps.toList := rfl
theorem rd_addX {i j : Str} {H : Hp} {Q : VK} (l : i.length + j.length ≤ 16777216) (h : Q (.str (i ++ j)) H) : rAddT (.str i) (.str j) H Q := ⟨i.cps.toList, j.cps.toList, congrArg V.str (str_S i), congrArg V.str (str_S j), l, by
  have e : SX.S (i.cps.toList ++ j.cps.toList) = i ++ j := by rw [← SX.S_cat, ← str_S, ← str_S]
  rw [e]
  exact h⟩
theorem hash_len : (Str.ofString " #").length = 2 := by decide +kernel
theorem same_putX {H H1 : Hp} {D : Addr} {o : HO} (s : Same H H1) (n : H D = none) : Same H (upd H1 D o) := fun b x e => by rw [upd_ne (ne_of_none e n)]; exact s b x e
theorem same_mk {H : Hp} {x dx : Addr} {o : HO} (hx : H x = none) (hdx : H dx = none) : Same H (upd (upd H dx (.own x)) x o) := fun b u e => by
  rw [upd_ne (ne_of_none e hx), upd_ne (ne_of_none e hdx)]
  exact e
end Z
namespace Z
open PySem PySem.Spec PyProof.Rows L2
def hitL (ns : List Int) (r : Rw) : Bool := !((ns.filter fun x => decide ((r.2.2.2.2 : Int) ≤ x) && decide (x ≤ (r.1 : Int))).isEmpty)
theorem hitL_iff {ns : List Int} {r : Rw} : hitL ns r = true ↔ ∃ x ∈ ns, (r.2.2.2.2 : Int) ≤ x ∧ x ≤ (r.1 : Int) := by
  unfold hitL
  rw [Bool.not_eq_true', List.isEmpty_eq_false_iff, ne_eq, List.filter_eq_nil_iff]
  constructor
  · intro h
    by_cases c : ∃ x ∈ ns, (r.2.2.2.2 : Int) ≤ x ∧ x ≤ (r.1 : Int)
    · exact c
    · refine (h fun x hx z => c ⟨x, hx, ?_⟩).elim
      rw [Bool.and_eq_true, decide_eq_true_eq, decide_eq_true_eq] at z
      exact z
  · rintro ⟨x, hx, h1, h2⟩ h
    exact h x hx (by rw [decide_eq_true h1, decide_eq_true h2]; rfl)
abbrev Iv := Int × Int
def cov (S : List Iv) (p : Int) : Bool := S.any fun v => decide (v.1 ≤ p) && decide (p < v.2)
theorem cov_iff {S : List Iv} {p : Int} : cov S p = true ↔ ∃ v ∈ S, v.1 ≤ p ∧ p < v.2 := by
  unfold cov
  rw [List.any_eq_true]
  constructor
  · rintro ⟨v, h, q⟩
    rw [Bool.and_eq_true, decide_eq_true_eq, decide_eq_true_eq] at q
    exact ⟨v, h, q⟩
  · rintro ⟨v, h, q1, q2⟩
    exact ⟨v, h, by rw [decide_eq_true q1, decide_eq_true q2]; rfl⟩
def mg1 (S : List Iv) (v : Iv) : List Iv := match S.getLast? with
  | none => [v]
  | some u => if v.1 ≤ u.2 then S.dropLast ++ [(u.1, v.2)] else S ++ [v]
def mgA (vs : List Iv) : List Iv := vs.foldl mg1 []
theorem mg1_nil (v : Iv) : mg1 [] v = [v] := rfl
theorem mg1_yes {S : List Iv} {u v : Iv} (h : v.1 ≤ u.2) : mg1 (S ++ [u]) v = S ++ [(u.1, v.2)] := by
  unfold mg1
  rw [List.getLast?_concat]
  show (if v.1 ≤ u.2 then _ else _) = _
  rw [if_pos h, List.dropLast_concat]
theorem mg1_no {S : List Iv} {u v : Iv} (h : ¬ v.1 ≤ u.2) : mg1 (S ++ [u]) v = S ++ [u] ++ [v] := by
  unfold mg1
  rw [List.getLast?_concat]
  show (if v.1 ≤ u.2 then _ else _) = _
  rw [if_neg h]
theorem last_or {α : Type} (xs : List α) : xs = [] ∨ ∃ ys x, xs = ys ++ [x] := by
  cases h : xs.getLast? with
  | none => exact .inl (List.getLast?_eq_none_iff.mp h)
  | some x =>
    obtain ⟨ys, e⟩ := List.getLast?_eq_some_iff.mp h
    exact .inr ⟨ys, x, e⟩
structure MgI (S pre : List Iv) : Prop where
  ok : ∀ v ∈ S, v.1 < v.2
  sep : S.Pairwise fun a b => a.2 < b.1
  cv : ∀ p, cov S p = cov pre p
  l1 : ∀ u, S.getLast? = some u → (∃ w ∈ pre, u.1 = w.1) ∧ ∃ w ∈ pre, u.2 = w.2
theorem MgI.step {S pre : List Iv} {v : Iv} (h : MgI S pre) (hv : v.1 < v.2) (hm : ∀ w ∈ pre, w.1 ≤ v.1 ∧ w.2 ≤ v.2) : MgI (mg1 S v) (pre ++ [v]) := by
  have covs : ∀ (A B : List Iv) p, cov (A ++ B) p = (cov A p || cov B p) := fun A B p => List.any_append
  rcases last_or S with rfl | ⟨S0, u, rfl⟩
  · rw [mg1_nil]
    refine ⟨fun w hw => by rw [List.mem_singleton.mp hw]; exact hv, List.pairwise_singleton _ _, fun p => ?_, fun u hu => ?_⟩
    · have e := h.cv p
      rw [covs, ← e]
      rfl
    · cases hu
      exact ⟨⟨v, List.mem_append_right _ List.mem_cons_self, rfl⟩, ⟨v, List.mem_append_right _ List.mem_cons_self, rfl⟩⟩
  · obtain ⟨⟨w1, hw1, e1⟩, w2, hw2, e2⟩ := h.l1 u List.getLast?_concat
    have b1 := (hm w1 hw1).1
    have b2 := (hm w2 hw2).2
    have hu := h.ok u (List.mem_append_right _ List.mem_cons_self)
    obtain ⟨p1, p2, p3⟩ := List.pairwise_append.mp h.sep
    by_cases c : v.1 ≤ u.2
    · rw [mg1_yes c]
      refine ⟨fun w hw => ?_, ?_, fun p => ?_, fun w hw => ?_⟩
      · rcases List.mem_append.mp hw with hw | hw
        · exact h.ok w (List.mem_append_left _ hw)
        · rw [List.mem_singleton.mp hw]
          show u.1 < v.2
          omega
      · refine List.pairwise_append.mpr ⟨p1, List.pairwise_singleton _ _, fun a ha b hb => ?_⟩
        rw [List.mem_singleton.mp hb]
        exact p3 a ha u List.mem_cons_self
      · have e := h.cv p
        rw [covs] at e ⊢
        rw [covs, ← e]
        have e3 : cov [(u.1, v.2)] p = (cov [u] p || cov [v] p) := by
          show ((decide (u.1 ≤ p) && decide (p < v.2)) || false) = (((decide (u.1 ≤ p) && decide (p < u.2)) || false) || ((decide (v.1 ≤ p) && decide (p < v.2)) || false))
          rw [Bool.eq_iff_iff]
          simp only [Bool.or_eq_true, Bool.and_eq_true, decide_eq_true_eq, Bool.false_eq_true, or_false]
          omega
        rw [e3, Bool.or_assoc]
      · rw [List.getLast?_concat] at hw
        cases hw
        exact ⟨⟨w1, List.mem_append_left _ hw1, e1⟩, ⟨v, List.mem_append_right _ List.mem_cons_self, rfl⟩⟩
    · rw [mg1_no c]
      refine ⟨fun w hw => ?_, ?_, fun p => ?_, fun w hw => ?_⟩
      · rcases List.mem_append.mp hw with hw | hw
        · exact h.ok w hw
        · rw [List.mem_singleton.mp hw]
          exact hv
      · refine List.pairwise_append.mpr ⟨h.sep, List.pairwise_singleton _ _, fun a ha b hb => ?_⟩
        rw [List.mem_singleton.mp hb]
        rcases List.mem_append.mp ha with ha | ha
        · have := p3 a ha u List.mem_cons_self
          omega
        · rw [List.mem_singleton.mp ha]
          omega
      · rw [covs (S0 ++ [u]) [v], covs pre [v], h.cv p]
      · rw [List.getLast?_concat] at hw
        cases hw
        exact ⟨⟨v, List.mem_append_right _ List.mem_cons_self, rfl⟩, ⟨v, List.mem_append_right _ List.mem_cons_self, rfl⟩⟩
theorem MgI.fold : ∀ (vs S pre : List Iv), MgI S pre → (∀ v ∈ vs, v.1 < v.2) → ((pre ++ vs).Pairwise fun a b => a.1 ≤ b.1 ∧ a.2 ≤ b.2) → MgI (vs.foldl mg1 S) (pre ++ vs)
  | [], S, pre, h, _, _ => by rw [List.append_nil]; exact h
  | v :: vs, S, pre, h, hv, hp => by
    have e : pre ++ v :: vs = (pre ++ [v]) ++ vs := by rw [List.append_assoc]; rfl
    rw [e] at hp ⊢
    refine MgI.fold vs _ _ (h.step (hv v List.mem_cons_self) fun w hw => ?_) (fun w hw => hv w (List.mem_cons_of_mem _ hw)) hp
    exact (List.pairwise_append.mp (List.pairwise_append.mp hp).1).2.2 w hw v List.mem_cons_self
theorem mgA_ok {vs : List Iv} (hv : ∀ v ∈ vs, v.1 < v.2) (hp : vs.Pairwise fun a b => a.1 ≤ b.1 ∧ a.2 ≤ b.2) : MgI (mgA vs) vs := by
  have h := MgI.fold vs [] [] ⟨fun v h => (List.not_mem_nil h).elim, .nil, fun _ => rfl, fun u h => nomatch h⟩ hv hp
  exact h
def ivW (r : Rw) : Iv := (rnear r, rfar r)
structure RowsM (rows : List Rw) (N : Nat) : Prop where
  lo : ∀ r ∈ rows, 0 ≤ rnear r
  hi : ∀ r ∈ rows, rfar r ≤ N
  ne : ∀ r ∈ rows, rnear r < rfar r
  mo : rows.Pairwise fun a b => rnear a ≤ rnear b ∧ rfar a ≤ rfar b
def plE : List Rc → Nat
  | [] => 0
  | .st _ :: r => plE r
  | .fr d _ _ :: r => d.1 + plE r
theorem foldl_pl : ∀ (rs : List Rc) (s : Run), (rs.foldl stpR s).pl = s.pl + plE rs
  | [], s => rfl
  | .st T :: rs, s => foldl_pl rs _
  | .fr d ns T :: rs, s => by
    rw [List.foldl_cons, foldl_pl rs]
    show s.pl + d.1 + plE rs = s.pl + (d.1 + plE rs)
    omega
theorem rowsF_mono : ∀ (rs : List Rc) (i pl : Nat) (lj : Nat × Nat) (o : Nat) {T T2 : Tb × Tb} {l2 : Nat}, Vd T lj.1 rs T2 l2 → lj.1 ≤ pl →
    (pl + lj.1 ≤ pl + plE rs + l2) ∧ (∀ r ∈ rowsF i pl lj o rs, (pl : Int) - lj.1 ≤ rnear r ∧ (pl : Int) + lj.1 ≤ rfar r ∧ rnear r < rfar r ∧ rfar r ≤ (pl + plE rs + l2 : Nat)) ∧ (rowsF i pl lj o rs).Pairwise fun a b => rnear a ≤ rnear b ∧ rfar a ≤ rfar b
  | [], i, pl, lj, o, T, T2, l2, h, _ => by
    have e : lj.1 = l2 := h.2
    exact ⟨by rw [e]; exact Nat.le_refl _, fun r hr => (List.not_mem_nil hr).elim, .nil⟩
  | .st T' :: rs, i, pl, lj, o, T, T2, l2, h, hp => rowsF_mono rs (i + 1) pl lj i h.2 hp
  | .fr d ns T' :: rs, i, pl, lj, o, T, T2, l2, h, hp => by
    obtain ⟨_, hd, hl, _, _, _, hv⟩ := h
    have d1 := hd.1
    obtain ⟨a, b, c⟩ := rowsF_mono rs (i + 1) (pl + d.1) (d.2.1, d.2.2.1) o hv (by show d.2.1 ≤ pl + d.1; omega)
    have a : pl + d.1 + d.2.1 ≤ pl + d.1 + plE rs + l2 := a
    have ep : plE (.fr d ns T' :: rs) = d.1 + plE rs := rfl
    have n0 : rnear (i, pl, d, lj, o) = (pl : Int) - (lj.1 : Nat) := rfl
    have f0 : rfar (i, pl, d, lj, o) = (pl : Int) + (d.1 : Nat) + (d.2.1 : Nat) := rfl
    refine ⟨by rw [ep]; omega, fun r hr => ?_, List.pairwise_cons.mpr ⟨fun r hr => ?_, c⟩⟩
    · rcases List.mem_cons.mp hr with rfl | hr
      · rw [n0, f0, ep]
        refine ⟨by omega, by omega, by omega, by push_cast; omega⟩
      · obtain ⟨b1, b2, b3, b4⟩ := b r hr
        have b1 : ((pl + d.1 : Nat) : Int) - (d.2.1 : Nat) ≤ rnear r := b1
        have b2 : ((pl + d.1 : Nat) : Int) + (d.2.1 : Nat) ≤ rfar r := b2
        rw [ep]
        refine ⟨by omega, by omega, b3, by push_cast at b4 ⊢; omega⟩
    · obtain ⟨b1, b2, b3, b4⟩ := b r hr
      have b1 : ((pl + d.1 : Nat) : Int) - (d.2.1 : Nat) ≤ rnear r := b1
      have b2 : ((pl + d.1 : Nat) : Int) + (d.2.1 : Nat) ≤ rfar r := b2
      rw [n0, f0]
      exact ⟨by omega, by omega⟩
theorem rowsM_of {rs : List Rc} {T : Tb × Tb} (h : Vd T0 0 rs T 0) : RowsM (runR rs).rows (lenW (runR rs).rows) := by
  obtain ⟨a, b, c⟩ := rowsF_mono rs 0 0 (0, 0) 0 h (Nat.zero_le _)
  have e : lenW (runR rs).rows = plE rs := by
    rw [(runO h.ok).last]
    show (rs.foldl stpR ⟨0, 0, (0, 0), 0, []⟩).pl = _
    rw [foldl_pl]
    exact Nat.zero_add _
  rw [e]
  rw [← runR_rows] at b c
  exact ⟨fun r hr => by have := (b r hr).1; exact this, fun r hr => by have := (b r hr).2.2.2; rw [Nat.zero_add, Nat.add_zero] at this; exact this, fun r hr => (b r hr).2.2.1, c⟩
/-- the rows at these places -/
def rowsAt (rows : List Rw) (js : List Nat) : List Rw := js.filterMap fun j => rows[j]?
theorem rowsAt_mem {rows : List Rw} {js : List Nat} {r : Rw} (h : r ∈ rowsAt rows js) : r ∈ rows := by
  obtain ⟨j, _, e⟩ := List.mem_filterMap.mp h
  exact List.mem_of_getElem? e
theorem rowsAt_mono {rows : List Rw} {N : Nat} (m : RowsM rows N) : ∀ {js : List Nat}, js.Pairwise (· < ·) → (rowsAt rows js).Pairwise fun a b => rnear a ≤ rnear b ∧ rfar a ≤ rfar b
  | [], _ => .nil
  | j :: js, h => by
    obtain ⟨h1, h2⟩ := List.pairwise_cons.mp h
    have ih := rowsAt_mono m h2
    cases e : rows[j]? with
    | none =>
      have e2 : rowsAt rows (j :: js) = rowsAt rows js := List.filterMap_cons_none e
      rw [e2]
      exact ih
    | some r =>
      have e2 : rowsAt rows (j :: js) = r :: rowsAt rows js := List.filterMap_cons_some e
      rw [e2]
      refine List.pairwise_cons.mpr ⟨fun s hs => ?_, ih⟩
      obtain ⟨k, hk, ek⟩ := List.mem_filterMap.mp hs
      have lt := h1 k hk
      obtain ⟨a1, a2⟩ := List.getElem?_eq_some_iff.mp e
      obtain ⟨b1, b2⟩ := List.getElem?_eq_some_iff.mp ek
      have := List.pairwise_iff_getElem.mp m.mo j k a1 b1 lt
      rw [a2, b2] at this
      exact this
def PrAt (H : Hp) (v : V) (p : Iv) : Prop := ∃ t, v = .ref t ∧ H t = some (.tup [.int p.1, .int p.2])
def PrsAt (H : Hp) (vs : List V) (ps : List Iv) : Prop := All2 (PrAt H) vs ps
theorem PrAt.lk {H H' : Hp} {v : V} {p : Iv} (s : LK H H') (h : PrAt H v p) : PrAt H' v p := let ⟨t, e, q⟩ := h; ⟨t, e, s _ _ q fun _ z => nomatch z⟩
theorem PrsAt.lk {H H' : Hp} {vs : List V} {ps : List Iv} (s : LK H H') (h : PrsAt H vs ps) : PrsAt H' vs ps := h.imp fun _ _ q => q.lk s
def tchW (rows : List Rw) (ns : List Int) : List Iv := mgA ((rowsAt rows (ixsW (hitL ns) rows rows.length)).map ivW)
end Z
namespace Z
open PySem PySem.Spec PyProof.Rows L2
/-- length, width, shape of frames that follow each other -/
abbrev Fw := Nat × Nat × Nat
def Chn : Nat → List Fw → Prop
  | _, [] => True
  | wb, f :: r => 1 ≤ f.1 ∧ wb + f.2.1 ≤ f.1 ∧ f.2.1 ≤ 8 ∧ f.2.2 ≤ 3 ∧ (f.2.1 = 0 → f.2.2 = 0) ∧ Chn f.2.1 r
theorem Chn.low {wb : Nat} : ∀ {fs : List Fw}, Chn wb fs → Chn 0 fs
  | [], _ => trivial
  | f :: r, ⟨h1, h2, h3⟩ => ⟨h1, by omega, h3⟩
def plJ : Nat → List Fw → List Jo
  | _, [] => []
  | p, f :: r => (p + f.1, f.2.1, f.2.2) :: plJ (p + f.1) r
def totW (fs : List Fw) : Nat := (fs.map (·.1)).sum
theorem totW_cons (f : Fw) (r : List Fw) : totW (f :: r) = f.1 + totW r := by unfold totW; rw [List.map_cons, List.sum_cons]
theorem plJ_rm : ∀ (fs : List Fw) (p wb n : Nat), Chn wb fs → n = p + totW fs → Rm n p wb (plJ p fs).dropLast
  | [], _, _, _, _, _ => trivial
  | [f], _, _, _, _, _ => trivial
  | f :: g :: r, p, wb, n, ⟨h1, h2, h3, h4, h5, h6⟩, hn => by
    have ih := plJ_rm (g :: r) (p + f.1) f.2.1 n h6 (by rw [hn, totW_cons]; omega)
    obtain ⟨g1, g2, _⟩ := h6
    rw [totW_cons, totW_cons] at hn
    exact ⟨by show p < p + f.1; omega, by show p + f.1 < n; omega, by show p + wb + f.2.1 ≤ p + f.1; omega, by show p + f.1 + f.2.1 ≤ n; omega, h3, h4, h5, ih⟩
/-- the samples -/
def sndW (fs : List Fw) (bs : List (List Int)) : List Int := turnL unfoldP bs.flatten (plJ 0 fs).dropLast
def fwR : List Rc → List Fw
  | [] => []
  | .st _ :: r => fwR r
  | .fr d _ _ :: r => (d.1, d.2.1, d.2.2.1) :: fwR r
theorem Vd.chn : ∀ {rs : List Rc} {T : Tb × Tb} {l : Nat} {T2 : Tb × Tb} {l2 : Nat}, Vd T l rs T2 l2 → Chn l (fwR rs)
  | [], _, _, _, _, _ => trivial
  | .st _ :: rs, _, _, _, _, ⟨_, q⟩ => Vd.chn (rs := rs) q
  | .fr d ns T' :: rs, _, _, _, _, ⟨_, hd, h3, _, _, _, q⟩ => ⟨hd.1, h3, hd.2.2.1, hd.2.2.2.1, hd.2.2.2.2.1, Vd.chn (rs := rs) q⟩
def bkF (f : Fm) : List Int := kfB f.2.2.1 f.2.2.2.2.1
def BsAt (H : Hp) (vs : List V) (bs : List (List Int)) : Prop := All2 (fun v b => ∃ q, v = .ref q ∧ H q = some (.lst (b.map V.int))) vs bs
theorem BsAt.same {H H' : Hp} {vs : List V} {bs : List (List Int)} (s : Same H H') (h : BsAt H vs bs) : BsAt H' vs bs := h.imp fun _ _ ⟨q, e, h⟩ => ⟨q, e, s _ _ h⟩
def JfAt (H : Hp) (vs : List V) (fs : List Fw) : Prop := All2 (fun v f => ∃ j, v = .ref j ∧ JtAt H j (f.2.1, f.2.2)) vs fs
theorem JfAt.same {H H' : Hp} {vs : List V} {fs : List Fw} (s : Same H H') (h : JfAt H vs fs) : JfAt H' vs fs := h.imp fun _ _ ⟨q, e, h⟩ => ⟨q, e, s _ _ h⟩
theorem JsAt.drop {H : Hp} {vs : List V} {js : List Jo} (h : JsAt H vs js) : JsAt H vs.dropLast js.dropLast := ⟨by rw [List.length_dropLast, List.length_dropLast, h.1], fun i v e => by
  have hl : i < vs.length - 1 := by
    have := (List.getElem?_eq_some_iff.mp e).1
    rw [List.length_dropLast] at this
    exact this
  rw [List.dropLast_eq_take, List.getElem?_take_of_lt (by omega)] at e
  obtain ⟨j, a, q, e1, e2, e3, e4⟩ := h.2 i v e
  refine ⟨j, a, q, ?_, e2, e3, e4⟩
  rw [List.dropLast_eq_take, List.getElem?_take_of_lt (by rw [← h.1]; omega)]
  exact e1⟩
end Z
namespace Z
open PySem PySem.Spec PyProof.Rows L2
def qL (st : Nat) (vs : List Int) : List Int := vs.map fun v => (2 * v + (st : Int)) / (2 * (st : Int))
/-- the numbers of a frame -/
def nsQ (d : Hd) (vs : List Int) : List Int := qL d.2.2.2.2 (splitL vs d.2.2.2.1)
def stB (g i : Nat) : Bool := decide (0 < g) && (decide (0 < i) && decide (i % g = 0))
def encR (g : Nat) : Nat → Tb × Tb → List Hd → List Int → List Rc
  | _, _, [], _ => []
  | i, T, d :: hs, vs => (if stB g i = true then [Rc.st T] else []) ++ .fr d (nsQ d (vs.take d.1)) T :: encR g (i + 1) (nextF d (nsQ d (vs.take d.1)) T) hs (vs.drop d.1)
def hdW (d : Hd) : Fw := (d.1, d.2.1, d.2.2.1)
def totH (hs : List Hd) : Nat := totW (hs.map hdW)
def plH (hs : List Hd) : List Jo := (plJ 0 (hs.map hdW)).dropLast
def encA (g : Nat) (hs : List Hd) (xs : List Int) : List Rc := encR g 0 T0 hs (turnL foldP xs (plH hs))
theorem Ch.chn : ∀ {hs : List Hd} {l e : Nat}, Ch l hs e → Chn l (hs.map hdW)
  | [], _, _, _ => trivial
  | d :: r, l, e, ⟨h1, h2, h3⟩ => ⟨h1.1, h2, h1.2.2.1, h1.2.2.2.1, h1.2.2.2.2.1, h3.chn⟩
theorem wst_grow {ns : List Int} {first : Nat} {T : Tb × Tb} {m B : Int} (hB : 0 ≤ B) (hn : ∀ z ∈ ns, -B ≤ z ∧ z ≤ B) (h1 : TbOk m T.1) (h2 : TbOk m T.2) : ∀ i, i ≤ ns.length → TbOk (m + (i : Int) * (2 * B + 1)) (wst ns first T i).2.1 ∧ TbOk (m + (i : Int) * (2 * B + 1)) (wst ns first T i).2.2
  | 0, _ => ⟨h1.up (by omega), h2.up (by omega)⟩
  | i + 1, hi => by
    obtain ⟨a1, a2⟩ := wst_grow (first := first) hB hn h1 h2 i (by omega)
    have hu : (uOf (ns.getD i 0) : Int) ≤ 2 * B + 1 := by
      have hz := hn _ (List.getElem_mem (show i < ns.length by omega))
      rw [getD_some (List.getElem?_eq_getElem (show i < ns.length by omega))]
      unfold uOf codeU
      split <;> omega
    have em : ((i + 1 : Nat) : Int) * (2 * B + 1) = (i : Int) * (2 * B + 1) + (2 * B + 1) := by push_cast; rw [Int.add_mul, Int.one_mul]
    have step : ∀ t : Tb, TbOk (m + (i : Int) * (2 * B + 1)) t → TbOk (m + ((i + 1 : Nat) : Int) * (2 * B + 1)) (tbB t (uOf (ns.getD i 0))) := fun t ⟨b1, b2, b3, b4⟩ => by
      rw [em]
      generalize (i : Int) * (2 * B + 1) = w at b2 ⊢
      unfold tbB
      split
      · exact ⟨by dsimp only; omega, by dsimp only; omega, by dsimp only; omega, by dsimp only; omega⟩
      · exact ⟨by dsimp only; omega, by dsimp only; omega, by dsimp only; omega, by dsimp only; omega⟩
    by_cases c : i < first
    · rw [wst_lo c]
      exact ⟨step _ a1, a2.up (by rw [em]; omega)⟩
    · rw [wst_hi c]
      exact ⟨a1.up (by rw [em]; omega), step _ a2⟩
/-- what the encoding keeps -/
structure EI (K : PySem.W.Frag) (R : Addr) (H0 H : Hp) (g : Nat) (hs : List Hd) (xs : List Int) (Te : Tb × Tb) (i : Nat) (ws : List V) (dn : List Rc) (t : Addr) (T : Tb × Tb) : Prop where
  eR : H R = some (.lst ws)
  rc : RcsAt K H ws dn
  tb : TbsV K H t T
  le : ws.length ≤ 2 * i
  sp : encA g hs xs = dn ++ encR g i T (hs.drop i) ((turnL foldP xs (plH hs)).drop (totH (hs.take i)))
  vd : ∃ l, Vd T l (encR g i T (hs.drop i) ((turnL foldP xs (plH hs)).drop (totH (hs.take i)))) Te 0
  sm : Same H0 H
theorem EI.same {K : PySem.W.Frag} {R : Addr} {H0 H H' : Hp} {g : Nat} {hs : List Hd} {xs : List Int} {Te : Tb × Tb} {i : Nat} {ws : List V} {dn : List Rc} {t : Addr} {T : Tb × Tb} (h : EI K R H0 H g hs xs Te i ws dn t T) (s : Same H H') : EI K R H0 H' g hs xs Te i ws dn t T :=
  { h with eR := s _ _ h.eR, rc := h.rc.lk (.of s), tb := h.tb.lk (.of s), sm := h.sm.trans s }
end Z
namespace Z
open PySem PySem.Spec PyProof.Rows L2
theorem Ch.all : ∀ {hs : List Hd} {l e : Nat}, Ch l hs e → ∀ d ∈ hs, HdOk d
  | [], _, _, _, d, hd => absurd hd List.not_mem_nil
  | c :: r, l, e, ⟨h1, h2, h3⟩, d, hd => by
    rcases List.mem_cons.mp hd with rfl | hd
    · exact h1
    · exact h3.all d hd
end Z
namespace Z
open PySem PySem.Spec PyProof.Rows L2
open SX (S S_len S_cat S_inj)
def ef (n : Nat) : Nat → Nat
  | 0 => 0
  | k + 1 => if cc n k > 1 then k + 1 else ef n k
def ljE : (Nat × Nat) → List Rc → Nat × Nat
  | lj, [] => lj
  | lj, .st _ :: r => ljE lj r
  | _, .fr d _ _ :: r => ljE (d.2.1, d.2.2.1) r
theorem ljE_st (T : Tb × Tb) : ∀ (rs : List Rc) (lj : Nat × Nat), ljE lj (rs ++ [.st T]) = ljE lj rs
  | [], _ => rfl
  | .st _ :: r, lj => ljE_st T r lj
  | .fr d _ _ :: r, _ => ljE_st T r (d.2.1, d.2.2.1)
theorem ljE_fr (d : Hd) (ns : List Int) (T : Tb × Tb) : ∀ (rs : List Rc) (lj : Nat × Nat), ljE lj (rs ++ [.fr d ns T]) = (d.2.1, d.2.2.1)
  | [], _ => rfl
  | .st _ :: r, lj => ljE_fr d ns T r lj
  | .fr d' _ _ :: r, _ => ljE_fr d ns T r (d'.2.1, d'.2.2.1)
theorem fwR_st (T : Tb × Tb) : ∀ (rs : List Rc), fwR (rs ++ [.st T]) = fwR rs
  | [] => rfl
  | .st _ :: r => fwR_st T r
  | .fr d _ _ :: r => congrArg ((d.1, d.2.1, d.2.2.1) :: ·) (fwR_st T r)
theorem fwR_fr (d : Hd) (ns : List Int) (T : Tb × Tb) : ∀ (rs : List Rc), fwR (rs ++ [.fr d ns T]) = fwR rs ++ [(d.1, d.2.1, d.2.2.1)]
  | [] => rfl
  | .st _ :: r => fwR_fr d ns T r
  | .fr d' _ _ :: r => congrArg ((d'.1, d'.2.1, d'.2.2.1) :: ·) (fwR_fr d ns T r)
theorem frR_st (T : Tb × Tb) : ∀ (rs : List Rc) (i pl : Nat) (lj : Nat × Nat), frR i pl lj (rs ++ [.st T]) = frR i pl lj rs
  | [], _, _, _ => rfl
  | .st _ :: r, i, pl, lj => frR_st T r (i + 1) pl lj
  | .fr d ns T' :: r, i, pl, lj => congrArg ((i, pl, d, lj, ns, T') :: ·) (frR_st T r (i + 1) (pl + d.1) (d.2.1, d.2.2.1))
theorem frR_fr (d : Hd) (ns : List Int) (T : Tb × Tb) : ∀ (rs : List Rc) (i pl : Nat) (lj : Nat × Nat), frR i pl lj (rs ++ [.fr d ns T]) = frR i pl lj rs ++ [(i + rs.length, pl + totW (fwR rs), d, ljE lj rs, ns, T)]
  | [], i, pl, lj => rfl
  | .st _ :: r, i, pl, lj => by
    have := frR_fr d ns T r (i + 1) pl lj
    show frR (i + 1) pl lj (r ++ [.fr d ns T]) = frR (i + 1) pl lj r ++ [(i + (r.length + 1), pl + totW (fwR r), d, ljE lj r, ns, T)]
    rw [this, show i + 1 + r.length = i + (r.length + 1) by omega]
  | .fr d' ns' T' :: r, i, pl, lj => by
    have := frR_fr d ns T r (i + 1) (pl + d'.1) (d'.2.1, d'.2.2.1)
    show (i, pl, d', lj, ns', T') :: frR (i + 1) (pl + d'.1) (d'.2.1, d'.2.2.1) (r ++ [.fr d ns T]) = (i, pl, d', lj, ns', T') :: (frR (i + 1) (pl + d'.1) (d'.2.1, d'.2.2.1) r ++ [(i + (r.length + 1), pl + totW ((d'.1, d'.2.1, d'.2.2.1) :: fwR r), d, ljE (d'.2.1, d'.2.2.1) r, ns, T)])
    rw [this, totW_cons, show i + 1 + r.length = i + (r.length + 1) by omega, show pl + d'.1 + totW (fwR r) = pl + (d'.1 + totW (fwR r)) by omega]
/-- what the law tells of a frame: its block, numbers, values, the tables before and behind it -/
def TlAt (K : PySem.W.Frag) (l : List Addr) (H : Hp) (v : V) (f : Fm) : Prop := ∃ a b m q t t2 jl j, v = .ref a ∧ a ∉ l ∧ m ∉ l ∧ q ∉ l ∧ H a = some (.lst [.ref b, .ref m, .ref q, .ref t, .ref t2]) ∧
  H b = some (.tup [.int (f.1 : Nat), .int (f.2.1 : Nat), .int (f.2.2.1.1 : Nat), .ref jl, .ref j]) ∧ JtAt H jl f.2.2.2.1 ∧ JtAt H j (f.2.2.1.2.1, f.2.2.1.2.2.1) ∧ H m = some (.lst (f.2.2.2.2.1.map V.int)) ∧ H q = some (.lst ((bkF f).map V.int)) ∧
  TbsV K H t f.2.2.2.2.2 ∧ TbsV K H t2 (nextF f.2.2.1 f.2.2.2.2.1 f.2.2.2.2.2)
theorem TlAt.kp {K : PySem.W.Frag} {l : List Addr} {H H' : Hp} {v : V} {f : Fm} (k : KpL l H H') (lk : LK H H') (h : TlAt K l H v f) : TlAt K l H' v f := by
  obtain ⟨a, b, m, q, t, t2, jl, j, e, n1, n2, n3, h1, h2, h3, h4, h5, h6, h7, h8⟩ := h
  exact ⟨a, b, m, q, t, t2, jl, j, e, n1, n2, n3, k _ _ n1 h1, lk _ _ h2 (fun _ z => nomatch z), lk _ _ h3 (fun _ z => nomatch z), lk _ _ h4 (fun _ z => nomatch z), k _ _ n2 h5, k _ _ n3 h6, h7.lk lk, h8.lk lk⟩
end Z
namespace Z
open PySem PySem.Spec PyProof.Rows L2
structure BI (K : PySem.W.Frag) (p R W S : Addr) (H0 H : Hp) (hrefs : List V) (hs : List Hd) (i m : Nat) (refs tls : List V) (rs : List Rc) (t : Addr) (T : Tb × Tb) (jl : Addr) : Prop where
  eR : H R = some (.lst refs)
  eW : H W = some (.lst tls)
  eS : H S = some (.lst hrefs)
  rc : RcsAt K H refs rs
  vd : Vd T0 0 rs T (ljE (0, 0) rs).1
  tl : All2 (TlAt K [p, R, W] H) tls (frR 0 0 (0, 0) rs)
  tb : TbsV K H t T
  t1 : TbOk (2 * 10 ^ 14 * (i : Int) + 100) T.1
  t2 : TbOk (2 * 10 ^ 14 * (i : Int) + 100) T.2
  jt : JtAt H jl (ljE (0, 0) rs)
  le : refs.length ≤ m
  fw : fwR rs = (hs.take i).map hdW
  po : Pool H p
  hh : HdsAt H hrefs hs
  kp : Kp p H0 H
  nRp : R ≠ p
  nWp : W ≠ p
  nSp : S ≠ p
  nRW : R ≠ W
  nSR : S ≠ R
  nSW : S ≠ W
  nR0 : H0 R = none
  nW0 : H0 W = none
  ch : Ch (ljE (0, 0) rs).1 (hs.drop i) 0
section
variable {K : PySem.W.Frag} {p R W S t jl : Addr} {H0 H H' : Hp} {hrefs refs tls : List V} {hs : List Hd} {i m : Nat} {rs : List Rc} {T : Tb × Tb}
theorem BI.move (h : BI K p R W S H0 H hrefs hs i m refs tls rs t T jl) (k : Kp p H H') (hP : Pool H' p) : BI K p R W S H0 H' hrefs hs i m refs tls rs t T jl :=
  have lk := LK.pool h.po k
  { h with eR := k _ _ h.nRp h.eR, eW := k _ _ h.nWp h.eW, eS := k _ _ h.nSp h.eS, rc := h.rc.lk lk, tl := h.tl.imp fun _ _ z => z.kp (KpL.ofK List.mem_cons_self k) lk
           tb := h.tb.lk lk, jt := lk _ _ h.jt (fun _ z => nomatch z), po := hP, hh := h.hh.lk lk, kp := h.kp.trans k }
theorem BI.same (h : BI K p R W S H0 H hrefs hs i m refs tls rs t T jl) (s : Same H H') : BI K p R W S H0 H' hrefs hs i m refs tls rs t T jl := h.move (fun a x _ e => s a x e) (h.po.same s)
theorem BI.addSt (h : BI K p R W S H0 H hrefs hs i m refs tls rs t T jl) {a t' : Addr} {T' : Tb × Tb} (ha : H a = some (.tup [.str (Str.ofString "state"), .ref t'])) (ht : TbsV K H t' T') (o1 : TbOk 100 T'.1) (o2 : TbOk 100 T'.2) :
    BI K p R W S H0 (upd H R (.lst (refs ++ [.ref a]))) hrefs hs i (m + 1) (refs ++ [.ref a]) tls (rs ++ [.st T']) t' T' jl :=
  have lk : LK H (upd H R (.lst (refs ++ [.ref a]))) := LK.at h.eR
  { h with eR := upd_same, eW := by rw [upd_ne h.nRW.symm]; exact h.eW, eS := by rw [upd_ne h.nSR]; exact h.eS
           rc := (h.rc.lk lk).app ⟨a, t', rfl, lk _ _ ha (fun _ z => nomatch z), ht.lk lk⟩
           vd := by rw [ljE_st]; exact Vd.st' ⟨o1.up (by decide), o2.up (by decide)⟩ h.vd
           tl := by rw [frR_st]; exact h.tl.imp fun _ _ z => z.kp (KpL.at (by simp)) lk
           tb := ht.lk lk, t1 := o1.up (by omega), t2 := o2.up (by omega)
           jt := by rw [ljE_st]; exact lk _ _ h.jt (fun _ z => nomatch z)
           le := by rw [List.length_append]; exact Nat.succ_le_succ h.le
           fw := by rw [fwR_st]; exact h.fw
           po := pool_upd h.nRp h.po, hh := h.hh.lk lk
           kp := fun b x nb e => by rw [upd_ne (ne_of_none e h.nR0)]; exact h.kp b x nb e
           ch := by rw [ljE_st]; exact h.ch }
theorem BI.addFr (h : BI K p R W S H0 H hrefs hs i m refs tls rs t T jl) {H3 : Hp} {d : Hd} {ns : List Int} {j a r u : Addr} (hd : hs[i]? = some d) (hi : i ≤ 12) (hn : ns.length = d.1) (hb : ∀ z ∈ ns, z.natAbs ≤ 10 ^ 12) (ta : TlAt K [p, R, W] H (.ref a) (refs.length, totW (fwR rs), d, ljE (0, 0) rs, ns, T)) (tu : TbsV K H u (nextF d ns T))
    (s : Same (upd H W (.lst (tls ++ [.ref a]))) H3) (hr : FrAt H3 r j d ns T) (hj : JtAt H3 j (d.2.1, d.2.2.1)) (hP3 : Pool H3 p) :
    BI K p R W S H0 (upd H3 R (.lst (refs ++ [.ref r]))) hrefs hs (i + 1) (m + 1) (refs ++ [.ref r]) (tls ++ [.ref a]) (rs ++ [.fr d ns T]) u (nextF d ns T) j := by
  have lk1 : LK H (upd H W (.lst (tls ++ [.ref a]))) := LK.at h.eW
  have eR3 : H3 R = some (.lst refs) := s _ _ (by rw [upd_ne h.nRW]; exact h.eR)
  have lk3 : LK H3 (upd H3 R (.lst (refs ++ [.ref r]))) := LK.at eR3
  have lk := lk1.trans ((LK.of s).trans lk3)
  have kl : KpL [p, R, W] H (upd H3 R (.lst (refs ++ [.ref r]))) := (KpL.at (by simp)).trans ((KpL.ofS s).trans (KpL.at (by simp)))
  have rl := h.rc.len
  have hil := (List.getElem?_eq_some_iff.mp hd).1
  have edr : hs.drop i = d :: hs.drop (i + 1) := by rw [List.drop_eq_getElem_cons hil, (List.getElem?_eq_some_iff.mp hd).2]
  have hch := h.ch
  rw [edr] at hch
  obtain ⟨ok, hw, hch2⟩ := hch
  have tk : TkOk T := ⟨h.t1.up (by omega), h.t2.up (by omega)⟩
  have gr := wst_grow (first := cc d.1 d.2.2.2.1) (B := 10 ^ 12) (by decide) (fun z hz => by have := hb z hz; omega) h.t1 h.t2 ns.length (Nat.le_refl _)
  have bd : 2 * 10 ^ 14 * (i : Int) + 100 + ((ns.length : Nat) : Int) * (2 * 10 ^ 12 + 1) ≤ 2 * 10 ^ 14 * ((i + 1 : Nat) : Int) + 100 := by
    have h64 : ns.length ≤ 64 := by rw [hn]; exact ok.2.1
    omega
  exact
  { eR := upd_same, eW := by rw [upd_ne h.nRW.symm]; exact s _ _ upd_same
    eS := by rw [upd_ne h.nSR]; exact s _ _ (by rw [upd_ne h.nSW]; exact h.eS)
    rc := (h.rc.lk lk).app ⟨r, j, rfl, lk3 _ _ hr (fun _ z => nomatch z), lk3 _ _ hj (fun _ z => nomatch z)⟩
    vd := by rw [ljE_fr]; exact Vd.fr' ok hw hn (fun z hz => Nat.le_trans (hb z hz) (by decide)) tk h.vd
    tl := by
      rw [frR_fr, Nat.zero_add, Nat.zero_add, ← rl]
      exact All2.app (h.tl.imp fun _ _ z => z.kp kl lk) (ta.kp kl lk)
    tb := tu.lk lk, t1 := gr.1.up bd, t2 := gr.2.up bd
    jt := by rw [ljE_fr]; exact lk3 _ _ hj (fun _ z => nomatch z)
    le := by rw [List.length_append]; exact Nat.succ_le_succ h.le
    fw := by rw [fwR_fr, h.fw, List.take_add_one, hd, List.map_append]; rfl
    po := pool_upd h.nRp hP3, hh := h.hh.lk lk
    kp := fun b x nb e => by rw [upd_ne (ne_of_none e h.nR0)]; exact s _ _ (by rw [upd_ne (ne_of_none e h.nW0)]; exact h.kp b x nb e)
    nRp := h.nRp, nWp := h.nWp, nSp := h.nSp, nRW := h.nRW, nSR := h.nSR, nSW := h.nSW, nR0 := h.nR0, nW0 := h.nW0
    ch := by rw [ljE_fr]; exact hch2 }
end
end Z
namespace Z
open PySem PySem.Spec PyProof.Rows L2
open SX (S S_len S_cat S_inj)
theorem BlAt.same {K : PySem.W.Frag} {H H' : Hp} {b : Addr} {f : Fm} (s : Same H H') (h : BlAt K H b f) : BlAt K H' b f := by
  obtain ⟨jl, j, h1, h2, h3⟩ := h
  exact ⟨jl, j, s _ _ h1, h2.lk (.of s), s _ _ h3⟩
theorem TlAt.same {K : PySem.W.Frag} {l : List Addr} {H H' : Hp} {v : V} {f : Fm} (s : Same H H') (h : TlAt K l H v f) : TlAt K l H' v f := h.kp (KpL.ofS s) (LK.of s)
end Z
namespace Z
open PySem PySem.Spec PyProof.Rows L2
/-- a def that is called while no text is being made -/
structure FnG (P : Program) (w : World) (K : PySem.W.Frag) (mg : Str → Option Value) (base : Heap) (CX : CXT) (k : Nat) (f : Addr) (fd : FuncData) (ps : List Str) (sp : Sp) : Prop where
  many : ∀ vs H Q E, sp vs H Q E → vs.length = ps.length
  runs : ∀ (A : Around) (stack : List Env) (s : Shared) (H : Hp) (args : Args) (us : List Value) (vs : List V) (Q : VK) (E : XK), Room k A → A.guards = some [] → Env0 P w K mg base A stack s H → BindsTo s fd args (ps.zip us) → Vals vs us →
    sp vs H Q E → codeAny (model P w) A (.call (.ref f) args) (CR CX stack P w H s Q E) s
section
variable {P : Program} {w : World} {K : PySem.W.Frag} {mg : Str → Option Value} {base : Heap} {CX : CXT} {k : Nat} {f : Addr} {fd : FuncData} {ps : List Str} {sp : Sp}
theorem FnG.mono {j : Nat} (F : FnG P w K mg base CX j f fd ps sp) (h : j ≤ k) : FnG P w K mg base CX k f fd ps sp := ⟨F.many, fun A stack s H args us vs Q E r => F.runs A stack s H args us vs Q E (r.mono h)⟩
end
def Sh (n m : Nat) (d : PyData) : Prop := d.showable = true ∧ d.hasDict = false ∧ d.depth ≤ n ∧ d.shown.length ≤ m
theorem Sh.up {n m n' m' : Nat} {d : PyData} (h : Sh n m d) (a : n ≤ n') (b : m ≤ m') : Sh n' m' d := ⟨h.1, h.2.1, Nat.le_trans h.2.2.1 a, Nat.le_trans h.2.2.2 b⟩
theorem Sh.int {i : Int} (h : i.natAbs < 2 ^ 1920) : Sh 0 1921 (.int i) := by
  have l : i.natAbs.log2 < 1920 := by
    by_cases c : i.natAbs = 0
    · rw [c]
      decide
    · exact (Nat.log2_lt c).mpr h
  exact ⟨decide_eq_true l, rfl, Nat.le_refl _, int_text_len_1921 l⟩
theorem sh_all {n m : Nat} : ∀ {ds : List PyData}, (∀ d ∈ ds, Sh n m d) → PyData.showableAll ds = true ∧ PyData.hasDictAll ds = false ∧ PyData.depthAll ds ≤ n ∧ ((PyData.shownAll ds).map (·.length)).sum ≤ ds.length * m ∧ (PyData.shownAll ds).length = ds.length
  | [], _ => ⟨rfl, rfl, Nat.zero_le _, Nat.zero_le _, rfl⟩
  | d :: r, h => by
    obtain ⟨a1, a2, a3, a4, a5⟩ := sh_all (ds := r) fun x hx => h x (List.mem_cons_of_mem _ hx)
    obtain ⟨b1, b2, b3, b4⟩ := h d List.mem_cons_self
    refine ⟨?_, ?_, Nat.max_le.mpr ⟨b3, a3⟩, ?_, congrArg (· + 1) a5⟩
    · show (d.showable && PyData.showableAll r) = true
      rw [b1, a1]
      rfl
    · show (d.hasDict || PyData.hasDictAll r) = false
      rw [b2, a2]
      rfl
    · show d.shown.length + ((PyData.shownAll r).map (·.length)).sum ≤ (r.length + 1) * m
      rw [Nat.add_mul, Nat.one_mul]
      omega
theorem Sh.list {n m k : Nat} {ds : List PyData} (h : ∀ d ∈ ds, Sh n m d) (l : ds.length ≤ k) : Sh (n + 1) (k * (m + 2) + 3) (.list ds) := by
  obtain ⟨a1, a2, a3, a4, a5⟩ := sh_all h
  refine ⟨a1, a2, Nat.succ_le_succ a3, Nat.le_trans (listText_len_le _) ?_⟩
  rw [a5]
  have : ds.length * (m + 2) ≤ k * (m + 2) := Nat.mul_le_mul_right _ l
  rw [Nat.mul_add] at this
  omega
theorem Sh.tup {n m k : Nat} {ds : List PyData} (h : ∀ d ∈ ds, Sh n m d) (l : ds.length ≤ k) : Sh (n + 1) (k * (m + 2) + 3) (.tuple ds) := by
  obtain ⟨a1, a2, a3, a4, a5⟩ := sh_all h
  refine ⟨a1, a2, Nat.succ_le_succ a3, Nat.le_trans (tupleText_len_le _) ?_⟩
  rw [a5]
  have : ds.length * (m + 2) ≤ k * (m + 2) := Nat.mul_le_mul_right _ l
  rw [Nat.mul_add] at this
  omega
def hdD (d : Hd) : PyData := .tuple [.int (d.1 : Nat), .tuple [.int (d.2.1 : Nat), .int (d.2.2.1 : Nat)], .int (d.2.2.2.1 : Nat), .int (d.2.2.2.2 : Nat)]
theorem sh_nat {n : Nat} (h : n ≤ 1000) : Sh 0 1921 (.int (n : Nat)) := .int (Nat.lt_of_le_of_lt (show _ ≤ 1000 by omega) (by decide +kernel))
theorem Sh.hd {d : Hd} (ok : HdOk d) : Sh 2 20000 (hdD d) := by
  obtain ⟨o1, o2, o3, o4, o5, o6, o7, o8⟩ := ok
  refine (Sh.tup (n := 1) (m := 4000) (k := 4) (fun x hx => ?_) (Nat.le_refl _)).up (Nat.le_refl _) (by decide)
  simp only [List.mem_cons, List.not_mem_nil, or_false] at hx
  rcases hx with rfl | rfl | rfl | rfl
  · exact (sh_nat (by omega)).up (by decide) (by decide)
  · refine (Sh.tup (n := 0) (m := 1921) (k := 2) (fun y hy => ?_) (Nat.le_refl _)).up (by decide) (by decide)
    simp only [List.mem_cons, List.not_mem_nil, or_false] at hy
    rcases hy with rfl | rfl
    · exact sh_nat (by omega)
    · exact sh_nat (by omega)
  · exact (sh_nat (by omega)).up (by decide) (by decide)
  · exact (sh_nat (by omega)).up (by decide) (by decide)
end Z
namespace Z
open PySem PySem.Spec PyProof.Rows L2 LamX NdefX
/-- what is not told of stays, but for slots -/
def PreH (H H' : Hp) (h h' : Heap) : Prop := ∀ b o, h.get? b = some o → H b = none → (∃ sl, h'.get? b = some { o with slots := sl }) ∧ H' b = none
section
variable {H H1 H2 H' : Hp} {h h1 h2 h' : Heap} {cl : List (Str × Addr)} {fr : List Str} {ws : List (Option V)}
theorem PreH.refl : PreH H H h h := fun b o e n => ⟨⟨o.slots, e⟩, n⟩
theorem PreH.trans (a : PreH H H1 h h1) (b : PreH H1 H2 h1 h2) : PreH H H2 h h2 := fun c o e n => by
  obtain ⟨⟨sl, e1⟩, n1⟩ := a c o e n
  obtain ⟨⟨sl2, e2⟩, n2⟩ := b c _ e1 n1
  exact ⟨⟨sl2, e2⟩, n2⟩
theorem PreH.of {fs : List Addr} (u : Un fs [] H H' h h') : PreH H H' h h' := fun b o e n => ⟨u.any e n List.not_mem_nil, u.free b o e n List.not_mem_nil⟩
end
/-- what a function that was given does, called with these values -/
abbrev TL := List V → Hp → VK → Prop
/-- the function at f, its code at c, can be called from here on: t is what it does -/
structure Can (P : Program) (w : World) (K : PySem.W.Frag) (mg : Str → Option Value) (base : Heap) (m : Nat) (f c : Addr) (t : TL) (h : Heap) (H : Hp) : Prop where
  run : ∀ (A : Around) (stack : List Env) (s : Shared) (H' : Hp) (us : List Value) (vs : List V) (Q : VK), Room m A → Env0 P w K mg base A stack s H' → PreH H H' h s.heap → H' f = H f → H' c = H c → Vals vs us → t vs H' Q →
    codeAny (model P w) A (.call (.ref f) ⟨us, []⟩) (CR CX0 stack P w H' s Q E0) s
  fn : ∀ (H' : Hp) (h' : Heap), HOk P w H' h' → H' f = H f → PySem.W.FnAt f h'
section
variable {P : Program} {w : World} {K : PySem.W.Frag} {mg : Str → Option Value} {base : Heap} {m k : Nat} {f c : Addr} {t : TL} {h h' : Heap} {H H' : Hp}
theorem Can.mono (C : Can P w K mg base m f c t h H) (l : m ≤ k) : Can P w K mg base k f c t h H := ⟨fun A stack s G us vs Q r => C.run A stack s G us vs Q (r.mono l), C.fn⟩
theorem Can.imp {t' : TL} (C : Can P w K mg base m f c t h H) (i : ∀ vs H Q, t' vs H Q → t vs H Q) : Can P w K mg base m f c t' h H := ⟨fun A stack s G us vs Q r e0 q a b rv z => C.run A stack s G us vs Q r e0 q a b rv (i _ _ _ z), C.fn⟩
end
abbrev SpC := Addr → Addr → TL → Sp
structure FnC (P : Program) (w : World) (K : PySem.W.Frag) (mg : Str → Option Value) (base : Heap) (k m : Nat) (g : Addr) (fd : FuncData) (ps : List Str) (sp : SpC) : Prop where
  many : ∀ f c t vs H Q E, sp f c t vs H Q E → vs.length = ps.length
  runs : ∀ (f c : Addr) (t : TL) (A : Around) (stack : List Env) (s : Shared) (H : Hp) (args : Args) (us : List Value) (vs : List V) (Q : VK) (E : XK), Room k A → Can P w K mg base m f c t s.heap H → Env0 P w K mg base A stack s H → BindsTo s fd args (ps.zip us) → Vals vs us →
    sp f c t vs H Q E → codeAny (model P w) A (.call (.ref g) args) (CR CX0 stack P w H s Q E) s
section
variable {P : Program} {w : World} {K : PySem.W.Frag} {mg : Str → Option Value} {base : Heap} {k m : Nat} {g : Addr} {fd : FuncData} {ps : List Str} {sp : SpC}
theorem FnC.mono {j : Nat} (F : FnC P w K mg base j m g fd ps sp) (h : j ≤ k) : FnC P w K mg base k m g fd ps sp := ⟨F.many, fun f c t A stack s H args us vs Q E r => F.runs f c t A stack s H args us vs Q E (r.mono h)⟩
end
end Z
namespace Z
open PySem PySem.Spec PyProof.Rows L2
open SX (S S_len S_cat S_inj)
/-- all but lists and dicts stays -/
def LKD (H H' : Hp) : Prop := ∀ b o, H b = some o → (∀ xs, o ≠ .lst xs) → (∀ k, o ≠ .dK k) → H' b = some o
section
variable {K : PySem.W.Frag} {H H' H1 : Hp} {a q : Addr} {xs : List V} {o : HO}
theorem LKD.trans (h : LKD H H') (k : LKD H' H1) : LKD H H1 := fun b o e n m => k b o (h b o e n m) n m
theorem LKD.lk (s : LK H H') : LKD H H' := fun b o e n _ => s b o e n
theorem LKD.of (s : Same H H') : LKD H H' := fun b o e _ _ => s b o e
theorem LKD.at {k : List (Key × V)} (n : H q = some (.dK k)) : LKD H (upd H q o) := fun b x e _ nk => by
  have nb : b ≠ q := fun z => by
    rw [z, n] at e
    exact nk k (Option.some.inj e).symm
  rw [upd_ne nb]
  exact e
theorem LKD.tup (s : LKD H H') (h : H a = some (.tup xs)) : H' a = some (.tup xs) := s _ _ h (fun _ z => nomatch z) fun _ z => nomatch z
theorem LKD.seqT (s : LKD H H') (h : SqT K H a xs) : SqT K H' a xs := by
  rcases h with (h | ⟨o, h⟩) | h
  · exact .inl (.inl (s.tup h))
  · exact .inl (.inr ⟨o, s _ _ h (fun _ z => nomatch z) fun _ z => nomatch z⟩)
  · exact .inr h
theorem LKD.tyo {t : Value} (ht : t = .type "tuple") (s : LKD H H') (h : TyOf K H (.ref a) t) : TyOf K H' (.ref a) t := by
  cases h with
  | lst e => exact absurd ht (by decide)
  | frz e => exact .frz (s _ _ e (fun _ z => nomatch z) fun _ z => nomatch z)
  | tup e => exact .tup (s.tup e)
  | dK e => exact absurd ht (by decide)
  | dT e => exact .dT (s _ _ e (fun _ z => nomatch z) fun _ z => nomatch z)
  | ins e cl ha hn htk hm => exact .ins (s _ _ e (fun _ z => nomatch z) fun _ z => nomatch z) cl ha hn htk hm
theorem LKD.tyx (s : LKD H H') (h : TyX K H (.ref a) (.type "tuple")) : TyX K H' (.ref a) (.type "tuple") := by
  generalize ht : (Value.type "tuple") = t at h ⊢
  cases h with
  | base b => exact .base (s.tyo ht.symm b)
  | set e => exact .set (s _ _ e (fun _ z => nomatch z) fun _ z => nomatch z)
  | kList e c => exact .kList e c
  | kTuple e c => exact .kTuple e c
  | kDict e c => exact .kDict e c
  | fTuple e => exact .fTuple (s _ _ e (fun _ z => nomatch z) fun _ z => nomatch z)
  | fDict e => exact absurd ht (by decide)
end
/-- all but lists, dicts and tables stays -/
def LKX (H H' : Hp) : Prop := ∀ b o, H b = some o → (∀ xs, o ≠ .lst xs) → (∀ k, o ≠ .dK k) → (∀ ps, o ≠ .tbl ps) → H' b = some o
theorem LKX.ext {H H' : Hp} (s : LamX.ExtN H H') : LKX H H' := fun b o e _ _ y => s b o e y
section
variable {K : PySem.W.Frag} {H H' H1 : Hp} {a q : Addr} {xs : List V} {o : HO}
theorem LKX.trans (h : LKX H H') (k : LKX H' H1) : LKX H H1 := fun b o e n m y => k b o (h b o e n m y) n m y
theorem LKX.lk (s : LK H H') : LKX H H' := fun b o e n _ _ => s b o e n
theorem LKX.of (s : Same H H') : LKX H H' := fun b o e _ _ _ => s b o e
theorem LKX.at {k : List (Key × V)} (n : H q = some (.dK k)) : LKX H (upd H q o) := fun b x e _ nk _ => by
  have nb : b ≠ q := fun z => by
    rw [z, n] at e
    exact nk k (Option.some.inj e).symm
  rw [upd_ne nb]
  exact e
theorem LKX.tup (s : LKX H H') (h : H a = some (.tup xs)) : H' a = some (.tup xs) := s _ _ h (fun _ z => nomatch z) (fun _ z => nomatch z) fun _ z => nomatch z
theorem LKX.seqT (s : LKX H H') (h : SqT K H a xs) : SqT K H' a xs := by
  rcases h with (h | ⟨o, h⟩) | h
  · exact .inl (.inl (s.tup h))
  · exact .inl (.inr ⟨o, s _ _ h (fun _ z => nomatch z) (fun _ z => nomatch z) fun _ z => nomatch z⟩)
  · exact .inr h
theorem LKX.tyo {t : Value} (ht : t = .type "tuple") (s : LKX H H') (h : TyOf K H (.ref a) t) : TyOf K H' (.ref a) t := by
  cases h with
  | lst e => exact absurd ht (by decide)
  | frz e => exact .frz (s _ _ e (fun _ z => nomatch z) (fun _ z => nomatch z) fun _ z => nomatch z)
  | tup e => exact .tup (s.tup e)
  | dK e => exact absurd ht (by decide)
  | dT e => exact .dT (s _ _ e (fun _ z => nomatch z) (fun _ z => nomatch z) fun _ z => nomatch z)
  | ins e cl ha hn htk hm => exact .ins (s _ _ e (fun _ z => nomatch z) (fun _ z => nomatch z) fun _ z => nomatch z) cl ha hn htk hm
theorem LKX.tyx (s : LKX H H') (h : TyX K H (.ref a) (.type "tuple")) : TyX K H' (.ref a) (.type "tuple") := by
  generalize ht : (Value.type "tuple") = t at h ⊢
  cases h with
  | base b => exact .base (s.tyo ht.symm b)
  | set e => exact .set (s _ _ e (fun _ z => nomatch z) (fun _ z => nomatch z) fun _ z => nomatch z)
  | kList e c => exact .kList e c
  | kTuple e c => exact .kTuple e c
  | kDict e c => exact .kDict e c
  | fTuple e => exact .fTuple (s _ _ e (fun _ z => nomatch z) (fun _ z => nomatch z) fun _ z => nomatch z)
  | fDict e => exact absurd ht (by decide)
end
def rcT : Rc → Tb × Tb
  | .st T => T
  | .fr d ns T => nextF d ns T
def rcN : Rc → List Int
  | .st _ => []
  | .fr _ ns _ => ns
/-- the tables behind the first i records -/
def tbG : Tb × Tb → List Rc → Nat → Tb × Tb
  | T, _, 0 => T
  | T, [], _ + 1 => T
  | _, r :: t, i + 1 => tbG (rcT r) t i
theorem Vd.tb : ∀ {rs : List Rc} {T : Tb × Tb} {l : Nat} {T2 : Tb × Tb} {l2 : Nat}, Vd T l rs T2 l2 → ∀ {i : Nat} {d : Hd} {ns : List Int} {T' : Tb × Tb}, rs[i]? = some (.fr d ns T') → T' = tbG T rs i
  | [], _, _, _, _, _, i, _, _, _, e => by cases e
  | .st T0 :: r, T, _, _, _, ⟨_, q⟩, 0, _, _, _, e => by cases e
  | .st T0 :: r, T, _, _, _, ⟨_, q⟩, i + 1, _, _, _, e => Vd.tb (rs := r) q (i := i) e
  | .fr d ns T0 :: r, T, _, _, _, ⟨e0, _, _, _, _, _, q⟩, 0, _, _, _, e => by
    cases e
    exact e0
  | .fr d ns T0 :: r, T, _, _, _, ⟨e0, _, _, _, _, _, q⟩, i + 1, _, _, _, e => by
    have := Vd.tb (rs := r) q (i := i) e
    rw [this, e0]
    rfl
/-- rows that tell of these records -/
structure RowsOf (rs : List Rc) (rows : List Rw) : Prop where
  fr : ∀ r ∈ rows, ∃ ns T, rs[r.1]? = some (.fr r.2.2.1 ns T)
  og : ∀ r ∈ rows, r.2.2.2.2 = 0 ∨ ∃ T, rs[r.2.2.2.2]? = some (.st T)
  all : ∀ u d ns T, rs[u]? = some (.fr d ns T) → ∃ r ∈ rows, r.1 = u ∧ r.2.2.1 = d
  near : ∀ r ∈ rows, ∀ (u : Nat) T, rs[u]? = some (.st T) → u ≤ r.1 → u ≤ r.2.2.2.2
theorem list_snoc {α : Type} {P : List α → Prop} (h0 : P []) (h1 : ∀ xs x, P xs → P (xs ++ [x])) : ∀ xs, P xs := fun xs => by
  have key : ∀ ys : List α, P ys.reverse := fun ys => by
    induction ys with
    | nil => exact h0
    | cons y r ih =>
      rw [List.reverse_cons]
      exact h1 _ _ ih
  have := key xs.reverse
  rwa [List.reverse_reverse] at this
theorem rowsOf' : ∀ rs : List Rc, RowsOf rs (runR rs).rows ∧ ((runR rs).o = 0 ∨ ∃ T, rs[(runR rs).o]? = some (.st T)) ∧ (∀ (u : Nat) T, rs[u]? = some (.st T) → u ≤ (runR rs).o) ∧ ∀ r ∈ (runR rs).rows, r.1 < rs.length := list_snoc ⟨⟨fun r h => absurd h List.not_mem_nil, fun r h => absurd h List.not_mem_nil, fun u d ns T e => (nomatch e), fun r h => absurd h List.not_mem_nil⟩, .inl rfl, fun u T e => (nomatch e), fun r h => absurd h List.not_mem_nil⟩ (fun rs x ⟨h, ho, hm, hlt⟩ => by
  have hi := runR_i rs
  have up : ∀ {u : Nat} {y : Rc}, rs[u]? = some y → (rs ++ [x])[u]? = some y := fun {u y} e => by
    rw [List.getElem?_append_left (List.getElem?_eq_some_iff.mp e).1]
    exact e
  have last : (rs ++ [x])[rs.length]? = some x := by rw [List.getElem?_append_right (Nat.le_refl _), Nat.sub_self]; rfl
  have old : ∀ {u : Nat} {y : Rc}, (rs ++ [x])[u]? = some y → rs[u]? = some y ∨ (u = rs.length ∧ y = x) := fun {u y} e => by
    by_cases c : u < rs.length
    · rw [List.getElem?_append_left c] at e
      exact .inl e
    · have l := (List.getElem?_eq_some_iff.mp e).1
      rw [List.length_append, List.length_singleton] at l
      have c2 : u = rs.length := by omega
      subst c2
      rw [last] at e
      exact .inr ⟨rfl, (Option.some.inj e).symm⟩
  have ll : (rs ++ [x]).length = rs.length + 1 := by rw [List.length_append]; rfl
  rw [runR_snoc]
  cases x with
  | st T =>
    refine ⟨⟨fun r hr => ?_, fun r hr => ?_, fun u d ns T' e => ?_, fun r hr u T' e l => ?_⟩, .inr ⟨T, ?_⟩, fun u T' e => ?_, fun r hr => ?_⟩
    · obtain ⟨ns, T', e⟩ := h.fr r hr
      exact ⟨ns, T', up e⟩
    · rcases h.og r hr with z | ⟨T', z⟩
      · exact .inl z
      · exact .inr ⟨T', up z⟩
    · rcases old e with z | ⟨_, z⟩
      · exact h.all u d ns T' z
      · cases z
    · have := hlt r hr
      rcases old e with z | ⟨z, _⟩
      · exact h.near r hr u T' z l
      · omega
    · show (rs ++ [Rc.st T])[(runR rs).i]? = _
      rw [hi]
      exact last
    · show u ≤ (runR rs).i
      have := (List.getElem?_eq_some_iff.mp e).1
      omega
    · have := hlt r hr
      omega
  | fr d ns T =>
    have ho' : (runR rs).o = 0 ∨ ∃ T', (rs ++ [Rc.fr d ns T])[(runR rs).o]? = some (.st T') := ho.elim .inl fun ⟨T', z⟩ => .inr ⟨T', up z⟩
    have hm' : ∀ (u : Nat) T', (rs ++ [Rc.fr d ns T])[u]? = some (.st T') → u ≤ (runR rs).o := fun u T' e => by
      rcases old e with z | ⟨_, z⟩
      · exact hm u T' z
      · cases z
    refine ⟨⟨fun r hr => ?_, fun r hr => ?_, fun u d' ns' T' e => ?_, fun r hr u T' e l => ?_⟩, ho', hm', fun r hr => ?_⟩
    · rcases List.mem_append.mp hr with hr | hr
      · obtain ⟨ns', T', e⟩ := h.fr r hr
        exact ⟨ns', T', up e⟩
      · rw [List.mem_singleton.mp hr]
        refine ⟨ns, T, ?_⟩
        show (rs ++ [Rc.fr d ns T])[(runR rs).i]? = _
        rw [hi]
        exact last
    · rcases List.mem_append.mp hr with hr | hr
      · rcases h.og r hr with z | ⟨T', z⟩
        · exact .inl z
        · exact .inr ⟨T', up z⟩
      · rw [List.mem_singleton.mp hr]
        exact ho'
    · rcases old e with z | ⟨z1, z⟩
      · obtain ⟨r, hr, e1, e2⟩ := h.all u d' ns' T' z
        exact ⟨r, List.mem_append.mpr (.inl hr), e1, e2⟩
      · cases z
        exact ⟨_, List.mem_append.mpr (.inr List.mem_cons_self), by rw [z1]; exact hi, rfl⟩
    · rcases List.mem_append.mp hr with hr | hr
      · rcases old e with z | ⟨z, y⟩
        · exact h.near r hr u T' z l
        · cases y
      · rw [List.mem_singleton.mp hr]
        exact hm' u T' e
    · rcases List.mem_append.mp hr with hr | hr
      · have := hlt r hr
        omega
      · rw [List.mem_singleton.mp hr]
        show (runR rs).i < _
        omega)
theorem rowsOf (rs : List Rc) : RowsOf rs (runR rs).rows := (rowsOf' rs).1
def IdxD (K : PySem.W.Frag) (H : Hp) (kvs : List (Key × V)) (rows : List Rw) : Prop := ∀ u : Nat, (∃ r ∈ rows, r.1 = u ∧ ∃ v, valV kvs (.inl (u : Int)) = some v ∧ RwV K H v r) ∨ ((∀ r ∈ rows, r.1 ≠ u) ∧ valV kvs (.inl (u : Int)) = none)
theorem IdxD.nil {K : PySem.W.Frag} {H : Hp} : IdxD K H [] [] := fun u => .inr ⟨fun r h => absurd h List.not_mem_nil, rfl⟩
theorem IdxD.lk {K : PySem.W.Frag} {H H' : Hp} {kvs : List (Key × V)} {rows : List Rw} (s : LK H H') (h : IdxD K H kvs rows) : IdxD K H' kvs rows := fun u => by
  rcases h u with ⟨r, a, b, v, c, d⟩ | z
  · exact .inl ⟨r, a, b, v, c, d.lk s⟩
  · exact .inr z
def spRdM (K : PySem.W.Frag) : Sp := fun vs H Q _ => ∃ (ns : List Int) (first : Nat) (b : Addr) (T : Tb × Tb), vs = [.str (S (wst ns first T ns.length).1.flatten), .int (ns.length : Nat), .int (first : Int), .ref b] ∧ ns.length ≤ 64 ∧ first ≤ ns.length ∧ (∀ z ∈ ns, z.natAbs < 10 ^ 55) ∧ TbsV K H b T ∧ TbOk (10 ^ 58) T.1 ∧ TbOk (10 ^ 58) T.2 ∧
  ∀ p m q H', H m = none → Same H H' → H p = none → H' p = some (.tup [.ref m, .ref q]) → H' m = some (.lst (ns.map V.int)) → TbsV K H' q (wst ns first T ns.length).2 → Q (.ref p) H'
theorem use_rdM {K : PySem.W.Frag} {ns : List Int} {first n : Nat} {b : Addr} {T : Tb × Tb} {l : List Nat} {H : Hp} {Q : VK} {E : XK} (e : l = (wst ns first T ns.length).1.flatten) (en : n = ns.length) (h1 : ns.length ≤ 64) (h2 : first ≤ ns.length) (h3 : ∀ z ∈ ns, z.natAbs < 10 ^ 55) (h4 : TbsV K H b T) (o1 : TbOk (10 ^ 58) T.1) (o2 : TbOk (10 ^ 58) T.2)
    (q : ∀ p m q H', H m = none → Same H H' → H p = none → H' p = some (.tup [.ref m, .ref q]) → H' m = some (.lst (ns.map V.int)) → TbsV K H' q (wst ns first T ns.length).2 → Q (.ref p) H') : spRdM K ([.str (S l), .int (n : Nat), .int (first : Int), .ref b] ++ []) H Q E := by
  subst e en
  exact ⟨ns, first, b, T, rfl, h1, h2, h3, h4, o1, o2, q⟩
def spRfM (K : PySem.W.Frag) : Sp := fun vs H Q _ => ∃ v d ns T t, vs = [v, .ref t] ∧ RcAt K H v (.fr d ns T) ∧ RcOk (.fr d ns T) ∧ TbsV K H t T ∧
  ∀ p m q H', H m = none → Same H H' → H p = none → H' p = some (.tup [.ref m, .ref q]) → H' m = some (.lst (ns.map V.int)) → TbsV K H' q (nextF d ns T) → Q (.ref p) H'
theorem use_rfM0 {K : PySem.W.Frag} {v : V} {d : Hd} {ns : List Int} {T : Tb × Tb} {t : Addr} {H : Hp} {Q : VK} {E : XK} (h : RcAt K H v (.fr d ns T)) (ok : RcOk (.fr d ns T)) (hT : TbsV K H t T)
    (q : ∀ p m q H', Same H H' → H p = none → H' p = some (.tup [.ref m, .ref q]) → H' m = some (.lst (ns.map V.int)) → TbsV K H' q (nextF d ns T) → Q (.ref p) H') : spRfM K ([v, .ref t] ++ []) H Q E := ⟨v, d, ns, T, t, rfl, h, ok, hT, fun p m q2 H' _ => q p m q2 H'⟩
def LogAt (C : Option Addr) (H : Hp) (cs : List Int) : Prop := match C with
  | none => True
  | some c => H c = some (.lst (cs.map V.int))
def logU (C : Option Addr) (H : Hp) (cs : List Int) (u : Int) : Hp := match C with
  | none => H
  | some c => upd H c (.lst ((cs ++ [u]).map V.int))
theorem LogAt.up {C : Option Addr} {H : Hp} {cs : List Int} {u : Int} : LogAt C (logU C H cs u) (cs ++ [u]) := by
  cases C with
  | none => trivial
  | some c => exact upd_same
theorem LogAt.same {C : Option Addr} {H H' : Hp} {cs : List Int} (s : Same H H') (h : LogAt C H cs) : LogAt C H' cs := by
  cases C with
  | none => trivial
  | some c => exact s _ _ h
/-- what is given fetches these records, from here on, and keeps this log -/
def Fetches (K : PySem.W.Frag) (t : TL) (rs : List Rc) (us : List Nat) (C : Option Addr) (H0 : Hp) : Prop := ∀ (H : Hp) (u : Nat) (r : Rc) (cs : List Int) (Q : VK), KpL C.toList H0 H → LogAt C H cs → cs.length ≤ 900 → u ∈ us → rs[u]? = some r → (∀ v, RcAt K (logU C H cs u) v r → Q v (logU C H cs u)) → t [.int (u : Nat)] H Q
theorem Fetches.kp {K : PySem.W.Frag} {t : TL} {rs : List Rc} {us : List Nat} {C : Option Addr} {H0 H1 : Hp} (k : KpL C.toList H0 H1) (h : Fetches K t rs us C H0) : Fetches K t rs us C H1 := fun H u r cs Q k1 => h H u r cs Q (k.trans k1)
/-- the dict of numbers -/
def NumD (C : Option Addr) (H : Hp) (kvs : List (Key × V)) (rs : List Rc) (us : List Nat) : Prop := ∀ u : Nat, (u ∈ us ∧ ∃ r a, rs[u]? = some r ∧ valV kvs (.inl (u : Int)) = some (.ref a) ∧ C ≠ some a ∧ H a = some (.lst ((rcN r).map V.int))) ∨ (u ∉ us ∧ valV kvs (.inl (u : Int)) = none)
theorem NumD.nil {C : Option Addr} {H : Hp} {rs : List Rc} : NumD C H [] rs [] := fun u => .inr ⟨List.not_mem_nil, rfl⟩
theorem NumD.same {C : Option Addr} {H H' : Hp} {kvs : List (Key × V)} {rs : List Rc} {us : List Nat} (s : Same H H') (h : NumD C H kvs rs us) : NumD C H' kvs rs us := fun u => by
  rcases h u with ⟨m, r, a, e1, e2, e4, e3⟩ | z
  · exact .inl ⟨m, r, a, e1, e2, e4, s _ _ e3⟩
  · exact .inr z
theorem LogAt.ne {C : Option Addr} {H : Hp} {cs : List Int} {a : Addr} (h : LogAt C H cs) (n : H a = none) : C ≠ some a := fun z => by
  subst z
  have h : H a = some (.lst (cs.map V.int)) := h
  rw [n] at h
  cases h
theorem LogAt.kp {C : Option Addr} {H H' : Hp} {cs : List Int} {N : Addr} (h : LogAt C H cs) (n : C ≠ some N) {o : HO} (e : H' = upd H N o) : LogAt C H' cs := by
  cases C with
  | none => trivial
  | some c =>
    show H' c = _
    rw [e, upd_ne (fun z => n (congrArg some z))]
    exact h
def rwF (r : Rw) : Fw := (r.2.2.1.1, r.2.2.1.2.1, r.2.2.1.2.2.1)
def nsA (rs : List Rc) (u : Nat) : List Int := match rs[u]? with
  | some r => rcN r
  | none => []
def blS (rs : List Rc) (p : Rw → Bool) (r : Rw) : List Int := if p r = true then kfB r.2.2.1 (nsA rs r.1) else List.replicate r.2.2.1.1 0
theorem kfB_len2 {d : Hd} {ns : List Int} (h : ns.length = d.1) : (kfB d ns).length = d.1 := by
  show (joinL (ns.map (· * (d.2.2.2.2 : Int))) d.2.2.2.1).length = _
  rw [joinL_length, List.length_map, h]
theorem blS_len {rs : List Rc} {p : Rw → Bool} {r : Rw} (h : p r = true → (nsA rs r.1).length = r.2.2.1.1) : (blS rs p r).length = r.2.2.1.1 := by
  unfold blS
  split
  · rename_i c
    exact kfB_len2 (h c)
  · exact List.length_replicate ..
theorem rows_fw : ∀ rs : List Rc, (runR rs).rows.map rwF = fwR rs := list_snoc rfl fun rs x h => by
  rw [runR_snoc]
  cases x with
  | st T => rw [fwR_st]; exact h
  | fr d ns T =>
    rw [fwR_fr, ← h]
    show ((runR rs).rows ++ [_]).map rwF = _
    rw [List.map_append]
    rfl
/-- what is known of a row's record -/
theorem RowsOf.at_ {rs : List Rc} {rows : List Rw} {Te : Tb × Tb} (h : RowsOf rs rows) (v : Vd T0 0 rs Te 0) {r : Rw} (hr : r ∈ rows) : ∃ ns T, rs[r.1]? = some (.fr r.2.2.1 ns T) ∧ nsA rs r.1 = ns ∧ HdOk r.2.2.1 ∧ ns.length = r.2.2.1.1 := by
  obtain ⟨ns, T, e⟩ := h.fr r hr
  have ok := v.ok _ (List.mem_of_getElem? e)
  obtain ⟨a, b, _⟩ := ok
  exact ⟨ns, T, e, by unfold nsA; rw [e]; rfl, a, b⟩
end Z
namespace Z
open PySem PySem.Spec PyProof.Rows L2
theorem ixsW_at {f : Rw → Bool} {rows : List Rw} {i : Nat} {r : Rw} (h : rows[i]? = some r) : decide (i ∈ ixsW f rows rows.length) = f r := by
  have hl := (List.getElem?_eq_some_iff.mp h).1
  unfold ixsW
  rw [Bool.eq_iff_iff, decide_eq_true_eq, List.mem_filter, List.mem_range, h]
  exact ⟨fun z => z.2, fun z => ⟨hl, z⟩⟩
theorem Tabs.lk {T : List (Addr × Str)} {H H' : Hp} (k : LK H H') (t : LamX.Tabs T H) : LamX.Tabs T H' := fun e he => by
  obtain ⟨ps, h1, h2, h3⟩ := t e he
  refine ⟨ps, k _ _ h1 (fun _ z => nomatch z), h2, fun pos cv hc => ?_⟩
  obtain ⟨c, e1, e2⟩ := h3 pos cv hc
  exact ⟨c, e1, k _ _ e2 fun _ => codeO_lst⟩
end Z
namespace Z
open PySem PySem.Spec PyProof.Rows L2
theorem mem_prs {js : List Jo} {t : Nat × Nat × Nat} : t ∈ prs js ↔ ∃ j ∈ js, t ∈ prs1 j j.2.1 := by
  unfold prs
  rw [List.mem_flatMap]
/-- a place of a part is as the same place of the whole: no other joint is near -/
theorem seg_get {f : Int → Int → Int → Int × Int} {n m a k : Nat} {xs ys : List Int} {js jb : List Jo} (hn : xs.length = n) (h : Rm n 0 0 js) (hm : ys.length = m) (hb : Rm m 0 0 jb) (hx : ∀ i, i < m → xs[a + i]? = ys[i]?) (h1 : ∀ j ∈ jb, (j.1 + a, j.2) ∈ js)
    (h2 : ∀ j ∈ js, (∃ j' ∈ jb, j = (j'.1 + a, j'.2)) ∨ j.1 + j.2.1 ≤ a + k ∨ a + k + j.2.1 < j.1) (hk : k < m) : (turnL f xs js)[a + k]? = (turnL f ys jb)[k]? := by
  have wb := rm_all jb 0 0 hb
  have sh : ∀ t ∈ prs jb, (t.1, t.2.1 + a, t.2.2 + a) ∈ prs js := fun t ht => by
    obtain ⟨j, hj, ht⟩ := mem_prs.mp ht
    obtain ⟨i, hi, rfl⟩ := mem_prs1.mp ht
    have := wb j hj
    refine mem_prs.mpr ⟨_, h1 j hj, mem_prs1.mpr ⟨i, hi, ?_⟩⟩
    show (j.2.2, j.1 - 1 - i + a, j.1 + i + a) = (j.2.2, j.1 + a - 1 - i, j.1 + a + i)
    rw [show j.1 - 1 - i + a = j.1 + a - 1 - i by omega, show j.1 + i + a = j.1 + a + i by omega]
  have gd : ∀ i, i < m → xs.getD (i + a) 0 = ys.getD i 0 := fun i hi => by
    rw [List.getD_eq_getElem?_getD, List.getD_eq_getElem?_getD, Nat.add_comm i a, hx i hi]
  cases e : prt jb k with
  | none =>
    rw [turn_none hb e, ← hx k hk]
    refine get_out _ _ _ fun t ht => ?_
    obtain ⟨j, hj, ht⟩ := mem_prs.mp ht
    have wj := rm_all js 0 0 h j hj
    rcases h2 j hj with ⟨j', hj', rfl⟩ | c | c
    · obtain ⟨i, hi, rfl⟩ := mem_prs1.mp ht
      have w := wb j' hj'
      have z := prt_none jb k e (fun j hj => (wb j hj).1) _ (mem_prs.mpr ⟨j', hj', mem_prs1.mpr ⟨i, hi, rfl⟩⟩)
      have hi : i < j'.2.1 := hi
      have z : j'.1 - 1 - i ≠ k ∧ j'.1 + i ≠ k := z
      show j'.1 + a - 1 - i ≠ a + k ∧ j'.1 + a + i ≠ a + k
      omega
    · obtain ⟨i, hi, rfl⟩ := mem_prs1.mp ht
      show j.1 - 1 - i ≠ a + k ∧ j.1 + i ≠ a + k
      omega
    · obtain ⟨i, hi, rfl⟩ := mem_prs1.mp ht
      show j.1 - 1 - i ≠ a + k ∧ j.1 + i ≠ a + k
      omega
  | some c =>
    obtain ⟨t, ht, q⟩ := prt_some jb k c e wb
    have mt := rm_mem jb 0 0 hb t ht
    have g1 := get_in (f := f) (prs js) xs hn (rm_ap js 0 0 h) _ (sh t ht)
    have g2 := get_in (f := f) (prs jb) ys hm (rm_ap jb 0 0 hb) t ht
    have g1 : (turnL f xs js)[t.2.1 + a]? = some (f t.1 (xs.getD (t.2.1 + a) 0) (xs.getD (t.2.2 + a) 0)).1 ∧ (turnL f xs js)[t.2.2 + a]? = some (f t.1 (xs.getD (t.2.1 + a) 0) (xs.getD (t.2.2 + a) 0)).2 := g1
    have g2 : (turnL f ys jb)[t.2.1]? = some (f t.1 (ys.getD t.2.1 0) (ys.getD t.2.2 0)).1 ∧ (turnL f ys jb)[t.2.2]? = some (f t.1 (ys.getD t.2.1 0) (ys.getD t.2.2 0)).2 := g2
    rw [gd t.2.1 (by omega), gd t.2.2 (by omega)] at g1
    rcases q with ⟨q1, q2⟩ | ⟨q1, q2⟩
    · rw [← q1, Nat.add_comm a, g1.1, g2.1]
    · rw [← q1, Nat.add_comm a, g1.2, g2.2]
def Til : Nat → Nat → List Rw → Prop
  | _, _, [] => True
  | p, w, r :: t => r.2.1 = p ∧ r.2.2.2.1.1 = w ∧ Til (p + r.2.2.1.1) r.2.2.1.2.1 t
theorem Til.app {Y : List Rw} : ∀ {X : List Rw} {p w : Nat}, Til p w (X ++ Y) → Til p w X ∧ ∃ w', Til (p + totW (X.map rwF)) w' Y
  | [], p, w, h => ⟨trivial, w, h⟩
  | r :: t, p, w, ⟨a, b, h⟩ => by
    obtain ⟨h1, w', h2⟩ := Til.app (X := t) h
    refine ⟨⟨a, b, h1⟩, w', ?_⟩
    rw [List.map_cons, totW_cons, ← Nat.add_assoc]
    exact h2
def jrR (r : Rw) : Jo := (rend r, r.2.2.1.2.1, r.2.2.1.2.2.1)
theorem plJ_til : ∀ {rows : List Rw} {p w : Nat}, Til p w rows → plJ p (rows.map rwF) = rows.map jrR
  | [], _, _, _ => rfl
  | r :: t, p, w, ⟨a, _, h⟩ => by
    show (p + r.2.2.1.1, r.2.2.1.2.1, r.2.2.1.2.2.1) :: plJ (p + r.2.2.1.1) (t.map rwF) = _ :: t.map jrR
    rw [plJ_til h, ← a]
    rfl
theorem plJ_sh : ∀ (fs : List Fw) (p a : Nat), plJ (p + a) fs = (plJ p fs).map fun j => (j.1 + a, j.2)
  | [], _, _ => rfl
  | f :: r, p, a => by
    show (p + a + f.1, f.2.1, f.2.2) :: plJ (p + a + f.1) r = (p + f.1 + a, f.2.1, f.2.2) :: (plJ (p + f.1) r).map _
    rw [show p + a + f.1 = p + f.1 + a by omega, plJ_sh r (p + f.1) a]
theorem Til.cover : ∀ {rows : List Rw} {p w x : Nat}, Til p w rows → p ≤ x → x < p + totW (rows.map rwF) → ∃ r ∈ rows, r.2.1 ≤ x ∧ x < rend r
  | [], p, w, x, _, h1, h2 => by
    have : totW ([] : List Fw) = 0 := rfl
    rw [List.map_nil, this] at h2
    omega
  | r :: t, p, w, x, ⟨a, b, h⟩, h1, h2 => by
    rw [List.map_cons, totW_cons] at h2
    have h2 : x < p + (r.2.2.1.1 + totW (t.map rwF)) := h2
    by_cases c : x < p + r.2.2.1.1
    · exact ⟨r, List.mem_cons_self, by omega, by unfold rend; omega⟩
    · obtain ⟨q, hq, z⟩ := Til.cover (x := x) h (by omega) (by omega)
      exact ⟨q, List.mem_cons_of_mem _ hq, z⟩
theorem Til.bd : ∀ {rows : List Rw} {p w : Nat}, Til p w rows → ∀ r ∈ rows, p ≤ r.2.1 ∧ rend r ≤ p + totW (rows.map rwF)
  | [], _, _, _, r, h => absurd h List.not_mem_nil
  | q :: t, p, w, ⟨a, b, h⟩, r, hr => by
    rw [List.map_cons, totW_cons]
    show p ≤ r.2.1 ∧ rend r ≤ p + (q.2.2.1.1 + totW (t.map rwF))
    rcases List.mem_cons.mp hr with rfl | hr
    · unfold rend
      omega
    · have := Til.bd h r hr
      omega
/-- the joint on the right of a row is the one on the left of the next -/
theorem Til.next : ∀ {C : List Rw} {z : Rw} {p w : Nat}, Til p w (z :: C) → ∀ r ∈ (z :: C).dropLast, ∃ r' ∈ C, r'.2.1 = rend r ∧ r'.2.2.2.1.1 = r.2.2.1.2.1
  | [], z, _, _, _, r, h => by cases h
  | c :: t, z, p, w, ⟨a, b, h⟩, r, hr => by
    rw [List.dropLast_cons₂] at hr
    rcases List.mem_cons.mp hr with rfl | hr
    · obtain ⟨h1, h2, _⟩ := h
      exact ⟨c, List.mem_cons_self, by unfold rend; omega, h2⟩
    · obtain ⟨r', m, q⟩ := Til.next h r hr
      exact ⟨r', List.mem_cons_of_mem _ m, q⟩
theorem split_rows {s e : Int} : ∀ {rows : List Rw}, (rows.Pairwise fun a b => rnear a ≤ rnear b ∧ rfar a ≤ rfar b) → ∃ A C, rows = A ++ rows.filter (selW s e) ++ C ∧ (∀ r ∈ A, rfar r ≤ s) ∧ (∀ r ∈ C, e ≤ rnear r)
  | [], _ => ⟨[], [], rfl, fun r h => absurd h List.not_mem_nil, fun r h => absurd h List.not_mem_nil⟩
  | r :: t, h => by
    obtain ⟨h1, h2⟩ := List.pairwise_cons.mp h
    obtain ⟨A, C, e1, hA, hC⟩ := split_rows (s := s) (e := e) h2
    by_cases c : rfar r ≤ s
    · have z : selW s e r = false := by
        unfold selW
        rw [decide_eq_false (show ¬ s < rfar r by omega), Bool.and_false]
      refine ⟨r :: A, C, ?_, fun q hq => ?_, hC⟩
      · rw [List.filter_cons_of_neg (by rw [z]; exact Bool.false_ne_true), List.cons_append, List.cons_append, ← e1]
      · rcases List.mem_cons.mp hq with rfl | hq
        · exact c
        · exact hA q hq
    · by_cases d : rnear r < e
      · have z : selW s e r = true := by
          unfold selW
          rw [decide_eq_true d, decide_eq_true (show s < rfar r by omega)]
          rfl
        have nA : A = [] := by
          cases A with
          | nil => rfl
          | cons x A =>
            have := hA x List.mem_cons_self
            have := (h1 x (by rw [e1]; exact List.mem_append_left _ (List.mem_append_left _ List.mem_cons_self))).2
            omega
        subst nA
        refine ⟨[], C, ?_, hA, hC⟩
        rw [List.filter_cons_of_pos z, List.nil_append, List.cons_append]
        congr 1
      · have all : ∀ q ∈ r :: t, e ≤ rnear q := fun q hq => by
          rcases List.mem_cons.mp hq with rfl | hq
          · omega
          · have := (h1 q hq).1
            omega
        refine ⟨[], r :: t, ?_, fun q hq => absurd hq List.not_mem_nil, all⟩
        rw [List.filter_eq_nil_iff.mpr fun q hq => ?_]
        · rfl
        · have := all q hq
          unfold selW
          rw [decide_eq_false (show ¬ rnear q < e by omega), Bool.false_and]
          exact Bool.false_ne_true
theorem blk_len {blk : Rw → List Int} : ∀ {rows : List Rw}, (∀ r ∈ rows, (blk r).length = r.2.2.1.1) → (rows.map blk).flatten.length = totW (rows.map rwF)
  | [], _ => rfl
  | r :: t, h => by
    rw [List.map_cons, List.flatten_cons, List.length_append, blk_len fun q hq => h q (List.mem_cons_of_mem _ hq), List.map_cons, totW_cons, h r List.mem_cons_self]
    rfl
theorem chn_app {Y : List Fw} : ∀ {X : List Fw} {w : Nat}, Chn w (X ++ Y) → Chn w X ∧ ∃ w', Chn w' Y
  | [], w, h => ⟨trivial, w, h⟩
  | f :: r, w, ⟨a, b, c, d, g, h⟩ => by
    obtain ⟨h1, h2⟩ := chn_app (X := r) h
    exact ⟨⟨a, b, c, d, g, h1⟩, h2⟩
/-- the samples of a stretch from the rows that it needs -/
theorem part_eq {rows : List Rw} {blk : Rw → List Int} {s e : Nat} (T : Til 0 0 rows) (hc : Chn 0 (rows.map rwF)) (mo : rows.Pairwise fun a b => rnear a ≤ rnear b ∧ rfar a ≤ rfar b) (hl : ∀ r ∈ rows, (blk r).length = r.2.2.1.1) (se : s < e) (le : e ≤ totW (rows.map rwF)) :
    ∃ r B, ndW (s : Int) (e : Int) rows = r :: B ∧ r.2.1 ≤ s ∧ e ≤ r.2.1 + totW ((r :: B).map rwF) ∧ Chn 0 ((r :: B).map rwF) ∧ (∀ q ∈ r :: B, q ∈ rows) ∧
      ((sndW (rows.map rwF) (rows.map blk)).drop s).take (e - s) = ((sndW ((r :: B).map rwF) ((r :: B).map blk)).drop (s - r.2.1)).take (e - s) := by
  obtain ⟨A, C, e1, hA, hC⟩ := split_rows (s := (s : Int)) (e := (e : Int)) mo
  have en : ndW (s : Int) (e : Int) rows = rows.filter (selW s e) := if_neg (by omega)
  have sel : ∀ r ∈ rows, ∀ x : Nat, s ≤ x → x < e → r.2.1 ≤ x → x < rend r → r ∈ rows.filter (selW s e) := fun r hr x h1 h2 h3 h4 => by
    refine List.mem_filter.mpr ⟨hr, ?_⟩
    unfold selW rnear rfar
    unfold rend at h4
    rw [decide_eq_true (by omega), decide_eq_true (by omega)]
    rfl
  obtain ⟨r0, m0, a0, b0⟩ := T.cover (Nat.zero_le s) (by omega)
  obtain ⟨r1, m1, a1, b1⟩ := T.cover (Nat.zero_le (e - 1)) (by omega)
  have f0 := sel r0 m0 s (Nat.le_refl _) se a0 b0
  have f1 := sel r1 m1 (e - 1) (by omega) (by omega) a1 b1
  have sub : ∀ q ∈ rows.filter (selW s e), q ∈ rows := fun q hq => (List.mem_filter.mp hq).1
  generalize rows.filter (selW (s : Int) (e : Int)) = F at *
  have nF : F ≠ [] := fun z => by
    rw [z] at f0
    cases f0
  obtain ⟨F', z, rfl⟩ : ∃ F' z, F = F' ++ [z] := ⟨F.dropLast, F.getLast nF, (List.dropLast_concat_getLast nF).symm⟩
  have e2 : rows = A ++ ((F' ++ [z]) ++ C) := by rw [e1, List.append_assoc]
  have e3 : rows = (A ++ F') ++ (z :: C) := by rw [e1]; simp
  have T2 := T
  rw [e2] at T2
  obtain ⟨TA, w', T3⟩ := Til.app T2
  obtain ⟨TF, w2, TC⟩ := Til.app T3
  have T4 := T
  rw [e3] at T4
  obtain ⟨_, w3, Tz⟩ := Til.app T4
  have hc2 := hc
  rw [e2, List.map_append, List.map_append] at hc2
  obtain ⟨_, w4, hc3⟩ := chn_app hc2
  have cF := (chn_app hc3).1.low
  have bF := TF.bd
  have x0 := bF _ f0
  have x1 := bF _ f1
  obtain ⟨r, B, eF⟩ : ∃ r B, F' ++ [z] = r :: B := by
    cases F' with
    | nil => exact ⟨z, [], rfl⟩
    | cons r t => exact ⟨r, t ++ [z], rfl⟩
  have pr : r.2.1 = totW (A.map rwF) := by
    have TF := TF
    rw [eF] at TF
    have := TF.1
    omega
  refine ⟨r, B, by rw [en, eF], by omega, ?_, by rw [← eF]; exact cF, fun q hq => sub q (by rw [eF]; exact hq), ?_⟩
  · rw [← eF, pr]
    omega
  rw [← eF, pr]
  generalize ha : totW (A.map rwF) = a at *
  have hlA : ∀ q ∈ A, (blk q).length = q.2.2.1.1 := fun q hq => hl q (by rw [e2]; exact List.mem_append_left _ hq)
  have hlF : ∀ q ∈ F' ++ [z], (blk q).length = q.2.2.1.1 := fun q hq => hl q (sub q hq)
  have lA := blk_len hlA
  have lF := blk_len hlF
  have lR := blk_len hl
  have ex : (rows.map blk).flatten = (A.map blk).flatten ++ (((F' ++ [z]).map blk).flatten ++ (C.map blk).flatten) := by
    rw [e2, List.map_append, List.map_append, List.flatten_append, List.flatten_append]
  have ejs : (plJ 0 (rows.map rwF)).dropLast = (A ++ F').map jrR ++ (z :: C).dropLast.map jrR := by
    rw [plJ_til T, ← List.map_dropLast, e3, List.dropLast_append_of_ne_nil (by simp), List.map_append]
  have ejb : F'.map jrR = ((plJ 0 ((F' ++ [z]).map rwF)).dropLast).map fun j => (j.1 + a, j.2) := by
    have z1 := plJ_til TF
    rw [plJ_sh _ 0 a] at z1
    have z2 := congrArg List.dropLast z1
    rw [← List.map_dropLast, ← List.map_dropLast, List.dropLast_concat] at z2
    exact z2.symm
  have jf : ∀ q : Rw, (jrR q).1 = rend q ∧ (jrR q).2.1 = q.2.2.1.2.1 := fun q => ⟨rfl, rfl⟩
  have key : ∀ i, i < e - s → (sndW (rows.map rwF) (rows.map blk))[s + i]? = (sndW ((F' ++ [z]).map rwF) ((F' ++ [z]).map blk))[s - a + i]? := fun i hi => by
    have es : s + i = a + (s - a + i) := by omega
    rw [es]
    refine seg_get (n := totW (rows.map rwF)) (m := totW ((F' ++ [z]).map rwF)) lR (plJ_rm _ 0 0 _ hc (Nat.zero_add _).symm) lF (plJ_rm _ 0 0 _ cF (Nat.zero_add _).symm) (fun i hi => ?_) (fun j hj => ?_) (fun j hj => ?_) (by omega)
    · rw [ex, List.getElem?_append_right (by rw [lA, ha]; omega), lA, ha, Nat.add_sub_cancel_left, List.getElem?_append_left (by rw [lF]; exact hi)]
    · have m := List.mem_map_of_mem (f := fun j : Jo => (j.1 + a, j.2)) hj
      rw [← ejb] at m
      rw [ejs, List.map_append]
      exact List.mem_append_left _ (List.mem_append_right _ m)
    · rw [ejs, List.map_append] at hj
      rcases List.mem_append.mp hj with hj | hj
      · rcases List.mem_append.mp hj with hj | hj
        · obtain ⟨q, hq, rfl⟩ := List.mem_map.mp hj
          have := hA q hq
          unfold rfar at this
          refine .inr (.inl ?_)
          rw [(jf q).1, (jf q).2]
          unfold rend
          omega
        · rw [ejb] at hj
          obtain ⟨j', hj', e'⟩ := List.mem_map.mp hj
          exact .inl ⟨j', hj', e'.symm⟩
      · obtain ⟨q, hq, rfl⟩ := List.mem_map.mp hj
        obtain ⟨r', hr', k1, k2⟩ := Til.next Tz q hq
        have := hC r' hr'
        unfold rnear at this
        refine .inr (.inr ?_)
        rw [(jf q).1, (jf q).2]
        omega
  refine List.ext_getElem? fun i => ?_
  rw [List.getElem?_take, List.getElem?_take]
  split
  · rename_i c
    rw [List.getElem?_drop, List.getElem?_drop, key i c]
  · rfl
theorem til_rowsF : ∀ (rs : List Rc) (i pl : Nat) (lj : Nat × Nat) (o : Nat), Til pl lj.1 (rowsF i pl lj o rs)
  | [], _, _, _, _ => trivial
  | .st _ :: r, i, pl, lj, o => til_rowsF r (i + 1) pl lj i
  | .fr d _ _ :: r, i, pl, lj, o => ⟨rfl, rfl, til_rowsF r (i + 1) (pl + d.1) (d.2.1, d.2.2.1) o⟩
theorem til_run (rs : List Rc) : Til 0 0 (runR rs).rows := by
  rw [runR_rows]
  exact til_rowsF rs 0 0 (0, 0) 0
def allB (rs : List Rc) (rows : List Rw) : List (List Int) := rows.map fun r => kfB r.2.2.1 (nsA rs r.1)
end Z
namespace Z
open PySem PySem.Spec PyProof.Rows L2 LamX NdefX
/-- all but the pool and the tables of code stay -/
def KpT (p : Addr) (H H' : Hp) : Prop := ∀ b o, b ≠ p → H b = some o → (∀ ps, o ≠ .tbl ps) → H' b = some o
section
variable {p : Addr} {H H' H1 H2 H3 : Hp}
theorem KpT.refl : KpT p H H := fun _ _ _ e _ => e
theorem KpT.trans (a : KpT p H H1) (b : KpT p H1 H2) : KpT p H H2 := fun c o n e t => b c o n (a c o n e t) t
theorem KpT.of (k : Kp p H H') : KpT p H H' := fun b o n e _ => k b o n e
theorem KpT.ext (s : LamX.ExtN H H') : KpT p H H' := fun b o _ e t => s b o e t
theorem KpT.same (s : Same H H') : KpT p H H' := fun b o _ e _ => s b o e
theorem KpT.new {q : Addr} {o : HO} (n : H q = none) : KpT p H (upd H q o) := KpT.same (same_new n)
theorem KpT.lst {b : Addr} {xs : List V} (k : KpT p H H') (n : b ≠ p) (e : H b = some (.lst xs)) : H' b = some (.lst xs) := k _ _ n e lst_ntbl
end
end Z
namespace Z
open PySem PySem.Spec PyProof.Rows L2 LamX
/-- records of small numbers -/
def SmR (rs : List Rc) : Prop := ∀ r ∈ rs, match r with
  | .st T => TbOk (10 ^ 8) T.1 ∧ TbOk (10 ^ 8) T.2
  | .fr _ ns _ => ∀ z ∈ ns, z.natAbs ≤ 30000
theorem SmR.nil : SmR [] := fun _ h => absurd h List.not_mem_nil
theorem SmR.st {rs : List Rc} {T : Tb × Tb} (h : SmR rs) (h1 : TbOk (10 ^ 8) T.1) (h2 : TbOk (10 ^ 8) T.2) : SmR (rs ++ [.st T]) := fun r hr => by
  rcases List.mem_append.mp hr with m | m
  · exact h r m
  · rw [List.mem_singleton.mp m]
    exact ⟨h1, h2⟩
theorem SmR.fr {rs : List Rc} {d : Hd} {ns : List Int} {T : Tb × Tb} (h : SmR rs) (h1 : ∀ z ∈ ns, z.natAbs ≤ 30000) : SmR (rs ++ [.fr d ns T]) := fun r hr => by
  rcases List.mem_append.mp hr with m | m
  · exact h r m
  · rw [List.mem_singleton.mp m]
    exact h1
/-- b is a with other numbers in the frame wh and, if ab, in those behind it up to the next state; k frames so far, o: such a one was met since the last state -/
inductive OthP (wh : Nat) (ab : Bool) : List Rc → List Rc → Nat → Bool → Prop
  | nil : OthP wh ab [] [] 0 false
  | st {a b : List Rc} {k : Nat} {o : Bool} {T : Tb × Tb} : OthP wh ab a b k o → OthP wh ab (a ++ [.st T]) (b ++ [.st T]) k false
  | fr {a b : List Rc} {k : Nat} {o : Bool} {d : Hd} {ns ms : List Int} {T T' : Tb × Tb} (c : Bool) : OthP wh ab a b k o → (c = true → k = wh ∨ (o = true ∧ ab = true)) → (c = false → ms = ns) → OthP wh ab (a ++ [.fr d ns T]) (b ++ [.fr d ms T']) (k + 1) (o || c)
theorem OthP.run {wh : Nat} {ab : Bool} {a b : List Rc} {k : Nat} {o : Bool} (h : OthP wh ab a b k o) : runR b = runR a ∧ (runR a).rows.length = k ∧ b.length = a.length := by
  induction h with
  | nil => exact ⟨rfl, rfl, rfl⟩
  | st h ih =>
    rw [runR_snoc, runR_snoc, ih.1]
    exact ⟨rfl, ih.2.1, by rw [List.length_append, List.length_append, ih.2.2]⟩
  | fr c h _ _ ih =>
    rw [runR_snoc, runR_snoc, ih.1]
    refine ⟨rfl, ?_, by rw [List.length_append, List.length_append, ih.2.2, List.length_singleton, List.length_singleton]⟩
    show ((runR _).rows ++ [_]).length = _
    rw [List.length_append, ih.2.1]
    rfl
theorem OthP.fw {wh : Nat} {ab : Bool} {a b : List Rc} {k : Nat} {o : Bool} (h : OthP wh ab a b k o) : fwR b = fwR a := by rw [← rows_fw, ← rows_fw, h.run.1]
theorem run_o : ∀ rs : List Rc, (runR rs).o ≤ rs.length := list_snoc (Nat.le_refl _) fun rs x h => by
  rw [runR_snoc, List.length_append]
  cases x with
  | st T =>
    show (runR rs).i ≤ _
    rw [runR_i]
    exact Nat.le_add_right _ _
  | fr d ns T => exact Nat.le_trans h (Nat.le_add_right _ _)
theorem nsA_app {rs : List Rc} {x : Rc} {u : Nat} (h : u < rs.length) : nsA (rs ++ [x]) u = nsA rs u := by
  unfold nsA
  rw [List.getElem?_append_left h]
theorem nsA_last {rs : List Rc} {d : Hd} {ns : List Int} {T : Tb × Tb} : nsA (rs ++ [.fr d ns T]) rs.length = ns := by
  unfold nsA
  rw [List.getElem?_append_right (Nat.le_refl _), Nat.sub_self]
  rfl
/-- only frames that cannot be read without that record have other numbers -/
theorem OthP.ns {wh : Nat} {ab : Bool} {a b : List Rc} {k : Nat} {o : Bool} (h : OthP wh ab a b k o) : (o = true → ∃ w, (runR a).rows[wh]? = some w ∧ (runR a).o ≤ w.1) ∧ ∀ r ∈ (runR a).rows, nsA b r.1 = nsA a r.1 ∨ ∃ w, (runR a).rows[wh]? = some w ∧ r.2.2.2.2 ≤ w.1 ∧ w.1 ≤ r.1 := by
  induction h with
  | nil => exact ⟨fun z => (nomatch z), fun r hr => absurd hr List.not_mem_nil⟩
  | @st a b k o T h ih =>
    have lt := (rowsOf' a).2.2.2
    have lb := h.run.2.2
    refine ⟨fun z => (nomatch z), fun r hr => ?_⟩
    rw [runR_snoc] at hr ⊢
    rw [nsA_app (by rw [lb]; exact lt r hr), nsA_app (lt r hr)]
    exact ih.2 r hr
  | @fr a b k o d ns ms T T' c h hc hn ih =>
    have lt := (rowsOf' a).2.2.2
    have lb := h.run.2.2
    have lk := h.run.2.1
    have er : (runR (a ++ [Rc.fr d ns T])).rows = (runR a).rows ++ [((runR a).i, (runR a).pl, d, (runR a).lj, (runR a).o)] := by rw [runR_snoc]; rfl
    have eo : (runR (a ++ [Rc.fr d ns T])).o = (runR a).o := by rw [runR_snoc]; rfl
    have ro := run_o a
    have up : ∀ {w : Rw}, (runR a).rows[wh]? = some w → ((runR a).rows ++ [((runR a).i, (runR a).pl, d, (runR a).lj, (runR a).o)])[wh]? = some w := fun e => by
      rw [List.getElem?_append_left (List.getElem?_eq_some_iff.mp e).1]
      exact e
    have own : k = wh → ((runR a).rows ++ [((runR a).i, (runR a).pl, d, (runR a).lj, (runR a).o)])[wh]? = some ((runR a).i, (runR a).pl, d, (runR a).lj, (runR a).o) := fun e => by
      rw [← e, ← lk, List.getElem?_append_right (Nat.le_refl _), Nat.sub_self]
      rfl
    rw [er, eo]
    refine ⟨fun z => ?_, fun r hr => ?_⟩
    · by_cases ho : o = true
      · obtain ⟨w, e, l⟩ := ih.1 ho
        exact ⟨w, up e, l⟩
      · have hct : c = true := by
          cases o with
          | true => exact absurd rfl ho
          | false => exact z
        rcases hc hct with e | ⟨e, _⟩
        · refine ⟨_, own e, ?_⟩
          show (runR a).o ≤ (runR a).i
          rw [runR_i]
          exact ro
        · exact absurd e ho
    · rcases List.mem_append.mp hr with m | m
      · rw [nsA_app (by rw [lb]; exact lt r m), nsA_app (lt r m)]
        rcases ih.2 r m with z | ⟨w, e, l⟩
        · exact .inl z
        · exact .inr ⟨w, up e, l⟩
      · obtain rfl := List.mem_singleton.mp m
        have ei := runR_i a
        have e1 : nsA (a ++ [Rc.fr d ns T]) (runR a).i = ns := by rw [ei]; exact nsA_last
        have e2 : nsA (b ++ [Rc.fr d ms T']) (runR a).i = ms := by rw [ei, ← lb]; exact nsA_last
        cases c with
        | false => exact .inl (e2.trans ((hn rfl).trans e1.symm))
        | true =>
          rcases hc rfl with e | ⟨e, _⟩
          · exact .inr ⟨_, own e, by show (runR a).o ≤ (runR a).i; omega, Nat.le_refl _⟩
          · obtain ⟨w, ew, l⟩ := ih.1 e
            have := lt w (List.mem_of_getElem? ew)
            exact .inr ⟨w, up ew, l, by show w.1 ≤ (runR a).i; omega⟩
theorem RcsAt.snoc {K : PySem.W.Frag} {H : Hp} {vs : List V} {rs : List Rc} {v : V} {r : Rc} (h : RcsAt K H vs rs) (k : RcAt K H v r) : RcsAt K H (vs ++ [v]) (rs ++ [r]) := All2.app h k
/-- a sample is told by the frames that reach it -/
theorem snd_at {rows : List Rw} {b1 b2 : Rw → List Int} (T : Til 0 0 rows) (hc : Chn 0 (rows.map rwF)) (mo : rows.Pairwise fun a b => rnear a ≤ rnear b ∧ rfar a ≤ rfar b) (l1 : ∀ r ∈ rows, (b1 r).length = r.2.2.1.1) (l2 : ∀ r ∈ rows, (b2 r).length = r.2.2.1.1) {t : Nat} (ht : t < totW (rows.map rwF))
    (ag : ∀ r ∈ rows, rnear r ≤ t → (t : Int) < rfar r → b1 r = b2 r) : (sndW (rows.map rwF) (rows.map b1))[t]? = (sndW (rows.map rwF) (rows.map b2))[t]? := by
  obtain ⟨r, B, e, _, _, _, m, q1⟩ := part_eq (blk := b1) T hc mo l1 (Nat.lt_succ_self t) ht
  obtain ⟨r', B', e', _, _, _, _, q2⟩ := part_eq (blk := b2) T hc mo l2 (Nat.lt_succ_self t) ht
  rw [e] at e'
  obtain ⟨rfl, rfl⟩ := List.cons.inj e'
  have same : (r :: B).map b1 = (r :: B).map b2 := List.map_congr_left fun x hx => by
    have hx2 : x ∈ ndW (t : Int) ((t + 1 : Nat) : Int) rows := by rw [e]; exact hx
    unfold ndW at hx2
    rw [if_neg (by omega)] at hx2
    obtain ⟨hm, hs⟩ := List.mem_filter.mp hx2
    unfold selW at hs
    simp only [Bool.and_eq_true, decide_eq_true_eq] at hs
    exact ag x hm (by omega) hs.2
  rw [same] at q1
  have q := q1.trans q2.symm
  have h := congrArg List.head? q
  rw [List.head?_take, List.head?_take, if_neg (by omega), if_neg (by omega), List.head?_drop, List.head?_drop] at h
  exact h
theorem touched_cov {rows : List Rw} {ns : List Int} {N : Nat} (m : RowsM rows N) (p : Int) : cov (tchW rows ns) p = true ↔ ∃ r ∈ rows, hitL ns r = true ∧ rnear r ≤ p ∧ p < rfar r := by
  have asc : (ixsW (hitL ns) rows rows.length).Pairwise (· < ·) := (List.pairwise_lt_range).sublist (List.filter_sublist)
  have hv : ∀ v ∈ (rowsAt rows (ixsW (hitL ns) rows rows.length)).map ivW, v.1 < v.2 := fun v hv => by
    obtain ⟨r, hr, rfl⟩ := List.mem_map.mp hv
    exact m.ne r (rowsAt_mem hr)
  have hp : ((rowsAt rows (ixsW (hitL ns) rows rows.length)).map ivW).Pairwise fun a b => a.1 ≤ b.1 ∧ a.2 ≤ b.2 := List.pairwise_map.mpr (rowsAt_mono m asc)
  unfold tchW
  rw [(mgA_ok hv hp).cv, cov_iff]
  constructor
  · rintro ⟨v, h, h1, h2⟩
    obtain ⟨r, hr, rfl⟩ := List.mem_map.mp h
    obtain ⟨j, hj, e⟩ := List.mem_filterMap.mp hr
    refine ⟨r, List.mem_of_getElem? e, ?_, h1, h2⟩
    exact (ixsW_at (f := hitL ns) e).symm.trans (decide_eq_true hj)
  · rintro ⟨r, hr, hh, h1, h2⟩
    obtain ⟨j, e⟩ := List.mem_iff_getElem?.mp hr
    refine ⟨ivW r, List.mem_map.mpr ⟨r, List.mem_filterMap.mpr ⟨j, ?_, e⟩, rfl⟩, h1, h2⟩
    exact of_decide_eq_true ((ixsW_at (f := hitL ns) e).trans hh)
section
variable {rs rs2 : List Rc} {wh k : Nat} {o : Bool} {w : Rw} {Te Te2 : Tb × Tb}
theorem OthP.keep (hO : OthP wh true rs rs2 k o) (hw : (runR rs).rows[wh]? = some w) {r : Rw} (hr : r ∈ (runR rs).rows) (hh : hitL [(w.1 : Int)] r = false) : nsA rs2 r.1 = nsA rs r.1 := by
  rcases hO.ns.2 r hr with z | ⟨w', e, l1, l2⟩
  · exact z
  · rw [hw] at e
    cases e
    have : hitL [(w.1 : Int)] r = true := hitL_iff.mpr ⟨_, List.mem_cons_self, by omega, by omega⟩
    rw [hh] at this
    cases this
theorem OthP.len (hO : OthP wh true rs rs2 k o) (hV2 : Vd T0 0 rs2 Te2 0) {r : Rw} (hr : r ∈ (runR rs).rows) : (nsA rs2 r.1).length = r.2.2.1.1 := by
  rw [← hO.run.1] at hr
  obtain ⟨ns, T, e1, e2, e3, e4⟩ := (rowsOf rs2).at_ hV2 hr
  rw [e2, e4]
theorem OthP.out (hO : OthP wh true rs rs2 k o) (hV : Vd T0 0 rs Te 0) (hV2 : Vd T0 0 rs2 Te2 0) (hw : (runR rs).rows[wh]? = some w) {t : Nat} (ht : t < totW (fwR rs)) (hc : cov (tchW (runR rs).rows [(w.1 : Int)]) t = false) :
    (sndW (fwR rs) (allB rs2 (runR rs).rows))[t]? = (sndW (fwR rs) (allB rs (runR rs).rows))[t]? ∧ (sndW (fwR rs) ((runR rs).rows.map (blS rs fun r => !hitL [(w.1 : Int)] r)))[t]? = (sndW (fwR rs) (allB rs (runR rs).rows))[t]? := by
  have til := til_run rs
  have m := rowsM_of hV
  have hfw := rows_fw rs
  have chn : Chn 0 ((runR rs).rows.map rwF) := by rw [hfw]; exact hV.chn
  have ht2 : t < totW ((runR rs).rows.map rwF) := by rw [hfw]; exact ht
  have no : ∀ r ∈ (runR rs).rows, rnear r ≤ t → (t : Int) < rfar r → hitL [(w.1 : Int)] r = false := fun r hr h1 h2 => by
    cases h : hitL [(w.1 : Int)] r with
    | false => rfl
    | true =>
      have := (touched_cov (ns := [(w.1 : Int)]) m t).mpr ⟨r, hr, h, h1, h2⟩
      rw [hc] at this
      cases this
  have l1 : ∀ r ∈ (runR rs).rows, (nsA rs r.1).length = r.2.2.1.1 := fun r hr => by
    obtain ⟨ns, T, e1, e2, e3, e4⟩ := (rowsOf rs).at_ hV hr
    rw [e2, e4]
  rw [← hfw]
  exact ⟨snd_at til chn m.mo (fun r hr => kfB_len2 (hO.len hV2 hr)) (fun r hr => kfB_len2 (l1 r hr)) ht2 fun r hr h1 h2 => by rw [hO.keep hw hr (no r hr h1 h2)],
    snd_at til chn m.mo (fun r hr => blS_len fun _ => l1 r hr) (fun r hr => kfB_len2 (l1 r hr)) ht2 fun r hr h1 h2 => by show (if (!hitL [(w.1 : Int)] r) = true then _ else _) = _; rw [no r hr h1 h2]; rfl⟩
end
theorem OthP.lens {rs rs2 : List Rc} {wh k : Nat} {o : Bool} {Te Te2 : Tb × Tb} (hO : OthP wh true rs rs2 k o) (hV : Vd T0 0 rs Te 0) (hV2 : Vd T0 0 rs2 Te2 0) (p : Rw → Bool) : (sndW (fwR rs) (allB rs (runR rs).rows)).length = totW (fwR rs) ∧ (sndW (fwR rs) (allB rs2 (runR rs).rows)).length = totW (fwR rs) ∧ (sndW (fwR rs) ((runR rs).rows.map (blS rs p))).length = totW (fwR rs) := by
  have l1 : ∀ r ∈ (runR rs).rows, (nsA rs r.1).length = r.2.2.1.1 := fun r hr => by
    obtain ⟨ns, T, e1, e2, e3, e4⟩ := (rowsOf rs).at_ hV hr
    rw [e2, e4]
  unfold sndW
  rw [turnL_length, turnL_length, turnL_length, ← rows_fw rs]
  exact ⟨blk_len fun r hr => kfB_len2 (l1 r hr), blk_len fun r hr => kfB_len2 (hO.len hV2 hr), blk_len fun r hr => blS_len fun _ => l1 r hr⟩
end Z
namespace Z
open PySem PySem.Spec PyProof.Rows L2
theorem passes_callL {X : Cx} {W : WX} {E : XK} (tk : Takes X W) (hW : ∀ cls d σ H, σ.length = X.N.length → E cls d H → W cls d σ H) : ∀ (pins : List (Addr × Obj)) (σ : L2.St) (H : Hp) (s : Shared) (e : Value) (s' : Shared), Inv X pins σ H s → L2.CX X.prog X.w X.stack H s E e s' → X.xe e s' :=
  fun _ σ _ _ e s' I c => tk e s' (XE.of_call I (fun cls d H' h => hW cls d σ H' I.len h) c)
def okR : V → Prop
  | .non => True
  | .bl _ => True
  | .int i => i.natAbs.log2 < 1920
  | .str x => (reprText x).length ≤ sizeLine
  | _ => False
abbrev EvR := Nat × Nat × Nat
def PlAt (K : PySem.W.Frag) (H : Hp) (lv st : Nat) (v : V) (r : EvR) : Prop := ∃ h j, v = .ref h ∧ H h = some (.tup [.int (r.1 : Nat), .ref j, .int (lv : Nat), .int (st : Nat)]) ∧ JtV K H j r.2
theorem PlAt.lk {K : PySem.W.Frag} {H H' : Hp} {lv st : Nat} {v : V} {r : EvR} (s : LK H H') (h : PlAt K H lv st v r) : PlAt K H' lv st v r := by
  obtain ⟨a, j, e, h1, h2⟩ := h
  exact ⟨a, j, e, s _ _ h1 (fun _ z => nomatch z), h2.lk s⟩
theorem rd_appM {a : Addr} {xs : List V} {v : V} {H : Hp} {Q : VK} (h : H a = some (.lst xs)) (n : xs.length ≤ 100000) (q : Q .non (upd H a (.lst (xs ++ [v])))) : rAppend (.ref a) [v] H Q := ⟨a, _, _, rfl, rfl, h, Nat.lt_of_le_of_lt n (by unfold sizeLine; decide), q⟩
def PlsAt (H : Hp) (vs : List V) (hss : List (List Hd)) : Prop := All2 (fun v hs => ∃ b refs, v = .ref b ∧ H b = some (.lst refs) ∧ HdsAt H refs hs ∧ refs.length ≤ 200) vs hss
theorem PlsAt.same {H H' : Hp} {vs : List V} {hss : List (List Hd)} (s : Same H H') (h : PlsAt H vs hss) : PlsAt H' vs hss := h.imp fun _ _ ⟨b, refs, e, h1, h2, h3⟩ => ⟨b, refs, e, s _ _ h1, h2.lk (.of s), h3⟩
/-- the first of the least of the first n numbers -/
def MinAt (zs : List Int) (n i : Nat) (z : Int) : Prop := zs[i]? = some z ∧ i < n ∧ ∀ k y, k < n → zs[k]? = some y → z ≤ y ∧ (k < i → z < y)
theorem MinAt.keep {zs : List Int} {n i : Nat} {z y : Int} (h : MinAt zs n i z) (e : zs[n]? = some y) (c : ¬ y < z) : MinAt zs (n + 1) i z := ⟨h.1, Nat.lt_succ_of_lt h.2.1, fun k x hk ex => by
  by_cases ck : k < n
  · exact h.2.2 k x ck ex
  · obtain rfl : k = n := by omega
    rw [e] at ex
    cases ex
    exact ⟨by omega, fun c2 => by have := h.2.1; omega⟩⟩
theorem MinAt.new {zs : List Int} {n i : Nat} {z y : Int} (h : MinAt zs n i z) (e : zs[n]? = some y) (c : y < z) : MinAt zs (n + 1) n y := ⟨e, Nat.lt_succ_self _, fun k x hk ex => by
  by_cases ck : k < n
  · have := (h.2.2 k x ck ex).1
    exact ⟨by omega, fun _ => by omega⟩
  · obtain rfl : k = n := by omega
    rw [e] at ex
    cases ex
    exact ⟨Int.le_refl _, fun c2 => absurd c2 (Nat.lt_irrefl _)⟩⟩
def eR (o v : V) (i k : Nat) : V := if 5 ≤ i + k then o else v
end Z
namespace Z
open PySem PySem.Spec PyProof.Rows L2
open SX (S S_len S_cat S_inj)
def rpart (a b : Str) : Str × Str × Str := match Builtin.Str.lastOccurrence a b 0 a.length with
  | some i => (Builtin.Str.strSub a 0 i, b, Builtin.Str.strSub a (i + b.length) a.length)
  | none => (Str.empty, Str.empty, a)
def rRpart : V → List V → Hp → VK → Prop := fun x xs H Q => ∃ a b, x = .str a ∧ xs = [.str b] ∧ (b.length == 0) = false ∧ a.length ≤ sizeLine ∧ ∀ p, H p = none → Q (.ref p) (upd H p (.tup [.str (rpart a b).1, .str (rpart a b).2.1, .str (rpart a b).2.2]))
theorem mt_rpartition {X : Cx} : MtR X "str.rpartition" rRpart := by
  intro pins s σ H x xs v us Q I rx rs h
  obtain ⟨a, b, rfl, rfl, hb, hz, h⟩ := h
  obtain ⟨t, rfl⟩ := rx
  cases rs with
  | cons r1 rs =>
    cases rs
    obtain ⟨u, rfl⟩ := r1
    refine call_meets F.slot_str_rpartition (typeIs_str _ _ _) F.entry_str_rpartition (F.args_str_rpartition_2 _ _) (meets_str_rpartition a b t u hb hz) ?_
    unfold rpart at h
    revert h
    cases Builtin.Str.lastOccurrence a b 0 a.length with
    | none => intro h; exact laid_parts I h
    | some i => intro h; exact laid_parts I h
theorem rd_rpart {a b : Str} {H : Hp} {Q : VK} (hb : (b.length == 0) = false) (hz : a.length ≤ sizeLine) (q : ∀ p, H p = none → Q (.ref p) (upd H p (.tup [.str (rpart a b).1, .str (rpart a b).2.1, .str (rpart a b).2.2]))) : rRpart (.str a) [.str b] H Q := ⟨a, b, rfl, rfl, hb, hz, q⟩
theorem at_hash {l : List Nat} {i : Nat} : StrLaws.At (S l) (S [32, 35]) l.length i ↔ l[i]? = some 32 ∧ l[i + 1]? = some 35 := by
  unfold StrLaws.At
  rw [StrLaws.subAt_eq, beq_iff_eq, S_len]
  show i + 2 ≤ l.length ∧ (l.drop i).take 2 = [32, 35] ↔ _
  constructor
  · rintro ⟨h1, h2⟩
    have e0 := congrArg (fun m => m[0]?) h2
    have e1 := congrArg (fun m => m[1]?) h2
    simp only [List.getElem?_take, List.getElem?_drop] at e0 e1
    exact ⟨by simpa using e0, by simpa using e1⟩
  · rintro ⟨h1, h2⟩
    have hlt := (List.getElem?_eq_some_iff.mp h2).1
    refine ⟨by omega, ?_⟩
    have d1 : l.drop i = 32 :: l.drop (i + 1) := by
      obtain ⟨a, b⟩ := List.getElem?_eq_some_iff.mp h1
      rw [List.drop_eq_getElem_cons a, b]
    have d2 : l.drop (i + 1) = 35 :: l.drop (i + 1 + 1) := by
      obtain ⟨a, b⟩ := List.getElem?_eq_some_iff.mp h2
      rw [List.drop_eq_getElem_cons a, b]
    rw [d1, d2]
    rfl
theorem last_hash (l : List Nat) : (Builtin.Str.lastOccurrence (S l) (S [32, 35]) 0 (S l).length = none ∧ ∀ i, ¬ (l[i]? = some 32 ∧ l[i + 1]? = some 35)) ∨ ∃ i, Builtin.Str.lastOccurrence (S l) (S [32, 35]) 0 (S l).length = some i ∧ (l[i]? = some 32 ∧ l[i + 1]? = some 35) ∧ ∀ k, i < k → ¬ (l[k]? = some 32 ∧ l[k + 1]? = some 35) := by
  rcases StrLaws.last_spec (S l) (S [32, 35]) with ⟨h, n⟩ | ⟨i, h, a, n⟩
  · rw [S_len] at n
    exact .inl ⟨h, fun i z => n i (at_hash.mpr z)⟩
  · rw [S_len] at a n
    exact .inr ⟨i, h, at_hash.mp a, fun k hk z => n k hk (at_hash.mpr z)⟩
theorem e_hash : Str.ofString " #" = S [32, 35] := by rfl
theorem sub_S (l : List Nat) (i j : Nat) : Builtin.Str.strSub (S l) i j = S ((l.drop i).take (j - i)) := TL.ext_tl (by rw [TL.tl_strSub])
theorem rpart_line {w n : List Nat} (hn : 35 ∉ n) : rpart (S (w ++ [32, 35] ++ n)) (S [32, 35]) = (S w, S [32, 35], S n) := by
  have hw : (w ++ [32, 35] ++ n)[w.length]? = some 32 := by rw [List.append_assoc, List.getElem?_append_right (Nat.le_refl _), Nat.sub_self]; rfl
  have hw1 : (w ++ [32, 35] ++ n)[w.length + 1]? = some 35 := by rw [List.append_assoc, List.getElem?_append_right (by omega), show w.length + 1 - w.length = 1 by omega]; rfl
  unfold rpart
  rcases last_hash (w ++ [32, 35] ++ n) with ⟨_, h⟩ | ⟨i, h, a, k⟩
  · exact absurd ⟨hw, hw1⟩ (h w.length)
  · obtain rfl : i = w.length := by
      rcases Nat.lt_trichotomy i w.length with z | z | z
      · exact absurd ⟨hw, hw1⟩ (k w.length z)
      · exact z
      · exfalso
        have a2 := a.2
        rw [List.getElem?_append_right (by rw [List.length_append]; show w.length + 2 ≤ _; omega)] at a2
        exact hn (List.mem_of_getElem? a2)
    rw [h]
    show (Builtin.Str.strSub _ _ _, _, Builtin.Str.strSub _ _ _) = _
    rw [sub_S, sub_S, S_len, S_len]
    have e1 : ((w ++ [32, 35] ++ n).drop 0).take (w.length - 0) = w := by
      rw [List.drop_zero, Nat.sub_zero, List.append_assoc]
      exact List.take_left' rfl
    have e2 : ((w ++ [32, 35] ++ n).drop (w.length + [32, 35].length)).take ((w ++ [32, 35] ++ n).length - (w.length + [32, 35].length)) = n := by
      have e3 : (w ++ [32, 35] ++ n).drop (w.length + [32, 35].length) = n := List.drop_left' (by rw [List.length_append])
      rw [e3]
      exact List.take_of_length_le (by rw [List.length_append, List.length_append]; omega)
    rw [e1, e2]
theorem str_num (n : Nat) : ((toString ((n : Nat) : Int) : String) : Str) = S (TL.numL n) := TL.ext_tl (TL.tl_num n)
theorem numL_0 : TL.numL 0 = [48] := by rw [TL.numL_lt (by decide)]
theorem numL_head {n : Nat} (h : n ≠ 0) : ∃ c r, TL.numL n = c :: r ∧ c ≠ 48 := by
  induction n using Nat.strongRecOn with
  | _ n ih =>
    by_cases c : n < 10
    · exact ⟨48 + n, [], TL.numL_lt c, by omega⟩
    · rw [TL.numL_step (by omega)]
      obtain ⟨d, r, e, hd⟩ := ih (n / 10) (by omega) (by omega)
      rw [e]
      exact ⟨d, r ++ [48 + n % 10], rfl, hd⟩
theorem num_len {n : Nat} (h : n < 2 ^ 200) : (TL.numL n).length ≤ 100 := TL.numL_len (by decide) (Nat.lt_of_lt_of_le h (by decide))
/-- a text of signs that are all to be stripped -/
theorem strip_all {l s : List Nat} (h : ∀ c ∈ l, c ∈ s) : Txt.stripChars (S l) (S s) = S [] := by
  have hc : ∀ c ∈ l, (S s).cps.contains c = true := fun c hc => by
    show (s.toArray).contains c = true
    rw [Array.contains_iff]
    simpa using h c hc
  have tw : l.takeWhile (S s).cps.contains = l := tw_all _ l hc
  have lo : stripLo (S s).cps.contains true (S l) = l.length := by
    unfold stripLo
    rw [if_pos rfl]
    show (l.takeWhile _).length = _
    rw [tw]
  have hi : stripHi (S s).cps.contains true (S l) l.length = l.length := by
    unfold stripHi
    rw [if_pos rfl]
    show (S l).length - ((l.drop l.length).reverse.takeWhile _).length = _
    rw [List.drop_length, S_len]
    rfl
  unfold Txt.stripChars Txt.stripBy
  cases hs : stripSame (S s).cps.contains true true (S l) with
  | true =>
    rw [if_pos rfl]
    unfold stripSame at hs
    rw [lo, Bool.and_eq_true, beq_iff_eq] at hs
    rw [List.length_eq_zero_iff.mp hs.1]
  | false =>
    rw [if_neg Bool.false_ne_true]
    unfold stripped
    rw [lo, hi]
    refine TL.ext_tl ?_
    rw [TL.tl_strSub]
    simp
theorem e_digits : Str.ofString "0123456789" = S [48, 49, 50, 51, 52, 53, 54, 55, 56, 57] := by rfl
theorem state_free : ∀ c ∈ (Str.ofString "state").cps.toList, c ≠ 32 ∧ c ≠ 10 ∧ c ≠ 35 := by decide +kernel
theorem frame_free : ∀ c ∈ (Str.ofString "frame").cps.toList, c ≠ 32 ∧ c ≠ 10 ∧ c ≠ 35 := by decide +kernel
theorem nums_nat {r : Rc} (ok : RcOk r) : ∀ z ∈ numsR r, ∃ n : Nat, z = (n : Int) ∧ n < 2 ^ 200 := fun z hz => by
  have h := nums_small ok z hz
  have h0 : 0 ≤ z := by
    cases r with
    | st T =>
      obtain ⟨⟨a1, a2, a3, a4⟩, b1, b2, b3, b4⟩ := ok
      simp only [numsR, List.mem_cons, List.not_mem_nil, or_false] at hz
      rcases hz with rfl | rfl | rfl | rfl <;> omega
    | fr d ns T =>
      have hm := markF_bound ns
      simp only [numsR, List.mem_cons, List.not_mem_nil, or_false] at hz
      rcases hz with rfl | rfl | rfl | rfl | rfl | rfl <;> omega
  exact ⟨z.toNat, by omega, by omega⟩
theorem word_free {r : Rc} (ok : RcOk r) : ∀ w ∈ wordsR r, ∀ c ∈ w.cps.toList, c ≠ 32 ∧ c ≠ 10 ∧ c ≠ 35 := by
  have hn : ∀ w ∈ (numsR r).map (fun z => ((toString z : String) : Str)), ∀ c ∈ w.cps.toList, c ≠ 32 ∧ c ≠ 10 ∧ c ≠ 35 := fun w hw c hc => by
    obtain ⟨z, hz, rfl⟩ := List.mem_map.mp hw
    obtain ⟨n, rfl, _⟩ := nums_nat ok z hz
    rw [str_num] at hc
    have := TL.numL_digits n c hc
    omega
  cases r with
  | st T =>
    intro w hw
    rcases List.mem_cons.mp hw with rfl | hw
    · exact state_free
    · exact hn w hw
  | fr d ns T =>
    intro w hw
    rcases List.mem_append.mp hw with hw | hw
    · rcases List.mem_cons.mp hw with rfl | hw
      · exact frame_free
      · exact hn w hw
    · rw [List.mem_singleton.mp hw]
      intro c hc
      have := wst_bin ns (cc d.1 d.2.2.2.1) T ns.length c hc
      unfold IsB at this
      omega
theorem split_body {r : Rc} (ok : RcOk r) : Txt.split (bodyR r) (Str.ofString " ") = wordsR r :=
  TL.split_join (y := Str.ofString " ") (s := 32) (S := []) rfl (by decide +kernel) (by cases r <;> exact List.cons_ne_nil _ _) fun w hw hm => (word_free ok w hw 32 hm).1 rfl
theorem body_free {r : Rc} (ok : RcOk r) : ∀ c ∈ (bodyR r).cps.toList, c ≠ 10 ∧ c ≠ 35 := by
  have key : ∀ ws : List Str, (∀ w ∈ ws, ∀ c ∈ w.cps.toList, c ≠ 32 ∧ c ≠ 10 ∧ c ≠ 35) → ∀ c ∈ TL.joinL [32] (ws.map TL.tl), c ≠ 10 ∧ c ≠ 35 := by
    intro ws
    induction ws with
    | nil => intro _ c hc; exact absurd hc List.not_mem_nil
    | cons w r ih =>
      intro h c hc
      cases r with
      | nil =>
        have := h w List.mem_cons_self c hc
        exact ⟨this.2.1, this.2.2⟩
      | cons x y =>
        have hc : c ∈ TL.tl w ++ ([32] ++ TL.joinL [32] ((x :: y).map TL.tl)) := hc
        rcases List.mem_append.mp hc with hc | hc
        · have := h w List.mem_cons_self c hc
          exact ⟨this.2.1, this.2.2⟩
        · rcases List.mem_append.mp hc with hc | hc
          · rw [List.mem_singleton.mp hc]; decide
          · exact ih (fun v hv => h v (List.mem_cons_of_mem _ hv)) c hc
  intro c hc
  have e : TL.tl (bodyR r) = TL.joinL [32] ((wordsR r).map TL.tl) := by
    unfold bodyR
    rw [TL.join_eq, TL.tl_join]
    rfl
  exact key _ (word_free ok) c (e ▸ hc)
theorem line_S (b : Str) {c : Int} (h : 0 ≤ c) : ∃ n : Nat, c = (n : Int) ∧ lineS b c = S (b.cps.toList ++ [32, 35] ++ TL.numL n) := by
  refine ⟨c.toNat, by omega, ?_⟩
  unfold lineS
  rw [show c = ((c.toNat : Nat) : Int) by omega, str_num, e_hash]
  show _ = _
  rw [show b = S b.cps.toList from rfl, S_cat, S_cat]
  rfl
theorem chkR_take {rs : List Rc} {i : Nat} {r : Rc} (c : Int) (h : rs[i]? = some r) : chkR c (rs.take (i + 1)) = chkS (chkR c (rs.take i)) (bodyR r) := by
  rw [List.take_add_one, h]
  exact chkR_snoc c (rs.take i) r
theorem split_none : Txt.split (S []) (S [32]) = [S []] := by
  rw [SX.split_S (by decide) (by decide)]
  rfl
/-- two promises of one def -/
theorem fn_or {P : Program} {w : World} {K : PySem.W.Frag} {mg : Str → Option Value} {base : Heap} {CX : CXT} {j k n : Nat} {f : Addr} {fd : FuncData} {ps : List Str} {sp sp' so : Sp} (F : FnOk P w K mg base CX j f fd ps sp) (G : FnOk P w K mg base CX k f fd ps sp') (hj : j ≤ n) (hk : k ≤ n)
    (h : ∀ vs H Q E, so vs H Q E → sp vs H Q E ∨ sp' vs H Q E) : FnOk P w K mg base CX n f fd ps so :=
  ⟨fun vs H Q E q => (h _ _ _ _ q).elim (F.len vs H Q E) (G.len vs H Q E), fun A outer s H args us vs Q E hr he hb hv hs => (h _ _ _ _ hs).elim ((F.mono hj).run A outer s H args us vs Q E hr he hb hv) ((G.mono hk).run A outer s H args us vs Q E hr he hb hv)⟩
def rSplitT : V → List V → Hp → VK → Prop := fun x xs H Q => ∃ a b, x = .str a ∧ xs = [.str b] ∧ (b.length == 0) = false ∧ a.length + 2 ≤ sizeLine ∧ rNewStrs (Txt.split a b) H Q
theorem mt_splitT {X : Cx} : MtR X "str.split" rSplitT := mt_split
theorem rd_splitT {a b : Str} {ys : List Str} {H : Hp} {Q : VK} (hb : (b.length == 0) = false) (hz : a.length ≤ 10000000) (e : Txt.split a b = ys) (q : ∀ p, H p = none → Q (.ref p) (upd H p (.lst (ys.map V.str)))) : rSplitT (.str a) [.str b] H Q := ⟨a, b, rfl, rfl, hb, Nat.le_trans (Nat.add_le_add_right hz 2) (by unfold sizeLine; decide), by rw [e]; exact q⟩
theorem sm_row2 {K : PySem.W.Frag} {H : Hp} {a b : Addr} {x y : Int} (h : H a = some (.tup [.int x, .int y])) (g : H b = some (.tup [.int x, .int y])) : SmV K H 2 (.ref a) (.ref b) :=
  .inr (.inr ⟨a, b, _, _, rfl, rfl, .of h, .of g, rfl, fun i v w e1 e2 => by
    rw [e1] at e2
    obtain rfl := Option.some.inj e2
    rcases i with _ | _ | i
    · cases e1; exact .inl ⟨rfl, rfl⟩
    · cases e1; exact .inl ⟨rfl, rfl⟩
    · simp at e1⟩)
theorem sm_rc {K : PySem.W.Frag} {H : Hp} {v w : V} {r : Rc} (h : RcAt K H v r) (g : RcAt K H w r) : SmV K H 3 v w := by
  cases r with
  | st T =>
    obtain ⟨a, t, rfl, h1, h2⟩ := h
    obtain ⟨b, u, rfl, g1, g2⟩ := g
    refine .inr (.inr ⟨a, b, _, _, rfl, rfl, .of h1, .of g1, rfl, fun i x y e1 e2 => ?_⟩)
    rcases i with _ | _ | i
    · cases e1; cases e2; exact .inl ⟨rfl, rfl⟩
    · cases e1; cases e2; exact sm_tbs h2 g2
    · simp at e1
  | fr d ns T =>
    obtain ⟨a, j, rfl, h1, h2⟩ := h
    obtain ⟨b, k, rfl, g1, g2⟩ := g
    unfold FrAt at h1 g1
    refine .inr (.inr ⟨a, b, _, _, rfl, rfl, .of h1, .of g1, rfl, fun i x y e1 e2 => ?_⟩)
    rcases i with _ | _ | _ | _ | _ | _ | _ | i
    · cases e1; cases e2; exact .inl ⟨rfl, rfl⟩
    · cases e1; cases e2; exact .inl ⟨rfl, rfl⟩
    · cases e1; cases e2; exact sm_row2 h2 g2
    · cases e1; cases e2; exact .inl ⟨rfl, rfl⟩
    · cases e1; cases e2; exact .inl ⟨rfl, rfl⟩
    · cases e1; cases e2; exact .inl ⟨rfl, rfl⟩
    · cases e1; cases e2; exact .inl ⟨rfl, rfl⟩
    · simp at e1
theorem sm_rcs {K : PySem.W.Frag} {H : Hp} {a b : Addr} {vs ws : List V} {rs : List Rc} (ha : H a = some (.lst vs)) (hb : H b = some (.lst ws)) (h : RcsAt K H vs rs) (g : RcsAt K H ws rs) : SmV K H 4 (.ref a) (.ref b) := by
  refine .inr (.inl ⟨a, b, _, _, rfl, rfl, .of ha, .of hb, by rw [h.len, g.len], fun i x y e1 e2 => ?_⟩)
  obtain ⟨r, rr, h1, h2, _⟩ := h.get _ _ e1
  obtain ⟨r', rr', g1, g2, _⟩ := g.get _ _ e2
  rw [h2] at g2
  obtain rfl := (List.cons.inj g2).1
  exact sm_rc h1 g1
end Z
namespace Z
open PySem PySem.Spec PyProof.Rows L2
open SX (S S_len S_cat S_inj)
/-- the limit on digits has not been set -/
def DgK (K : PySem.W.Frag) : Prop := PySem.W.nsOkIn K cStatics = true ∧ PySem.W.nsIn K cStatics "sys.int_max_str_digits" = some none
/-- a table whose total is below 2 ^ b -/
def TbB (b : Nat) (t : Tb) : Prop := TbOk (2 ^ b) t ∧ t.1 < 2 ^ b
theorem two_mono {b c : Nat} (h : b ≤ c) : (2 : Int) ^ b ≤ 2 ^ c := by exact_mod_cast Nat.pow_le_pow_right (n := 2) (by decide) h
theorem TbB.mono {b c : Nat} {t : Tb} (h : TbB b t) (k : b ≤ c) : TbB c t := by
  have := two_mono k
  exact ⟨h.1.mono this, by have := h.2; omega⟩
end Z
namespace Z
open PySem PySem.Spec PyProof.Rows L2
open SX (S S_len S_cat S_inj)
section
open PySem.NumText PySem.Calls
theorem wp_textT {M : Model} {A : Around} {E : Value → Shared → Prop} {s : Shared} {Q : Value → Shared → Prop} {v : Value} {text : List Nat} {n : Int} (hd : s.heap.NoDigits)
    (h0 : (text.takeWhile (· != 0)).length ≤ 640 → (int_private% "readNumeral") 0 10 (text.takeWhile (· != 0)) = (int_private% "Numeral.value") n)
    (h1 : (int_private% "readNumeral") 4300 10 (text.takeWhile (· != 0)) = (int_private% "Numeral.value") n)
    (ha : ((text.takeWhile (· != 0)).length == text.length) = true) (h : Q (.int n s.toks) { s with toks := s.toks + 1 }) :
    wpAny M A ((int_private% "intFromText") v text 10) Q E s := by
  by_cases hs : (text.takeWhile (· != 0)).length ≤ 640
  · exact PySem.W.KIN.wp_text hs (h0 hs) ha h
  · obtain ⟨mc, hns, hnone⟩ := hd
    show wpAny M A (do
      let limit ← if (text.takeWhile (· != 0)).length ≤ 640 then pure 0 else Builtin.intMaxStrDigits
      _) Q E s
    rw [if_neg hs]
    unfold Builtin.intMaxStrDigits
    refine wpAny_bind (wpAny_bind (wpAny_nsGet hns ?_))
    rw [hnone]
    refine wpAny_pure ?_
    simp only [h1]
    obtain ⟨hp, g, d, tk, os⟩ := s
    repeat (any_goals (first
      | assumption
      | (with_reducible refine wpAny_ite_true (decide_eq_true ha) ?_)
      | (with_reducible refine wpAny_ite_true ha ?_)
      | wp_step))
set_option maxHeartbeats 4000000 in
theorem meets_10 {x : PySem.Str} {u : Tok} {n : Int} (hn : PySem.intText? x = some n) (hl : x.length ≤ sizeLine) :
    Meets (Builtin.«int.__new__» ⟨[.type "int", .str x u], []⟩) (fun _ R s => s.heap.NoDigits ∧ R (.ok (.ret (.int n s.toks))) { s with toks := s.toks + 1 }) :=
  .of_wp fun prog w A R s hQ => by
    obtain ⟨hp, g, d, tk, os⟩ := s
    obtain ⟨hd, hQ⟩ := hQ
    have f1 := F.conv_sub_int
    have f2 := F.madeHere_int
    have f3 := PySem.W.KIN.str_int
    have f4 := PySem.W.KIN.str_idx
    have f5 := PySem.W.KIN.str_trunc
    have f6 : typeOf (.str x u) = pure (.type "str") := rfl
    have h0 : (numSeenOf x).length ≤ 640 → (int_private% "readNumeral") 0 10 (numSeenOf x) = (int_private% "Numeral.value") n := fun hs => by
      rcases read0 x hs with ⟨m, a1, a2, a3⟩ | ⟨a1, _⟩
      · rw [hn] at a1
        injection a1 with a1
        subst a1
        exact a3
      · rw [hn] at a1
        cases a1
    have h1 : (int_private% "readNumeral") 4300 10 (numSeenOf x) = (int_private% "Numeral.value") n ∧ ((numSeenOf x).length == (numTextOf x).length) = true := by
      rcases read4300 x hl with ⟨m, a1, a2, a3⟩ | ⟨a1, _⟩
      · rw [hn] at a1
        injection a1 with a1
        subst a1
        exact ⟨a3, a2⟩
      · rw [hn] at a1
        cases a1
    have hk := PySem.W.KIN.Hid.mk (And.intro hd (And.intro h0 h1))
    clear h0 h1 hl hn hd
    repeat (any_goals (first
      | assumption
      | ((with_reducible show wpAny _ _ ((int_private% "intFromText") _ _ _) _ _ _); refine wp_textT hk.out.1 hk.out.2.1 hk.out.2.2.1 hk.out.2.2.2 ?_)
      | wp_step))
    all_goals first | exact ⟨_, rfl, hQ⟩ | skip
end
def rIntZ : List V → Hp → VK → Prop := fun xs H Q => ∃ a n, xs = [.str a] ∧ PySem.intText? a = some n ∧ a.length ≤ sizeLine ∧ Q (.int n) H
theorem call_intZ {X : Cx} (z : DgK X.K) : CallR X (.type "int") rIntZ := by
  intro pins s σ H xs us Q I r h
  obtain ⟨a, n, rfl, hn, hl, q⟩ := h
  cases r with
  | cons r1 rs =>
    cases rs
    obtain ⟨t, rfl⟩ := r1
    have hd : s.heap.NoDigits := by
      have G := Heap.Ns.of_isNs (PySem.W.isNs_of_in I.kIn z.1)
      exact ⟨_, G, PySem.W.ns_none_of I.kIn G z.2⟩
    exact call_int_1 (meets_10 hn hl) ⟨hd, rfl, ⟨.int n, H, I.tok _, ⟨_, rfl⟩, q⟩⟩
theorem rd_intZ {a : Str} {n : Int} {H : Hp} {Q : VK} (h : PySem.intText? a = some n) (hl : a.length ≤ sizeLine) (q : Q (.int n) H) : rIntZ [.str a] H Q := ⟨a, n, rfl, h, hl, q⟩
theorem tw_len {p : Nat → Bool} : ∀ {l : List Nat}, (l.takeWhile p).length = l.length → ∀ c ∈ l, p c = true
  | [], _, c, h => absurd h List.not_mem_nil
  | d :: r, e, c, h => by
    rw [List.takeWhile_cons] at e
    by_cases z : p d = true
    · rw [if_pos z, List.length_cons, List.length_cons] at e
      rcases List.mem_cons.mp h with rfl | h
      · exact z
      · exact tw_len (Nat.succ.inj e) c h
    · rw [if_neg z] at e
      cases e
theorem strip_some {l s : List Nat} (h : Txt.stripChars (S l) (S s) = S []) : ∀ c ∈ l, c ∈ s := by
  have hc : ∀ c, (S s).cps.contains c = true → c ∈ s := fun c hc => by
    have hc : (s.toArray).contains c = true := hc
    rw [Array.contains_iff] at hc
    simpa using hc
  have key : ∀ c ∈ l, (S s).cps.contains c = true := by
    unfold Txt.stripChars Txt.stripBy at h
    generalize (S s).cps.contains = p at *
    have lo : stripLo p true (S l) = (l.takeWhile p).length := by
      unfold stripLo
      rw [if_pos rfl]
    have hi : stripHi p true (S l) (l.takeWhile p).length = l.length - ((l.drop (l.takeWhile p).length).reverse.takeWhile p).length := by
      unfold stripHi
      rw [if_pos rfl, S_len]
    cases hs : stripSame p true true (S l) with
    | true =>
      rw [hs, if_pos rfl] at h
      rw [S_inj h]
      exact fun c hc => absurd hc List.not_mem_nil
    | false =>
      rw [hs, if_neg Bool.false_ne_true] at h
      unfold stripped at h
      rw [lo, hi] at h
      have h2 := congrArg TL.tl h
      rw [TL.tl_strSub] at h2
      have h3 : (l.drop (l.takeWhile p).length).take (l.length - ((l.drop (l.takeWhile p).length).reverse.takeWhile p).length - (l.takeWhile p).length) = [] := h2
      have h4 := congrArg List.length h3
      rw [List.length_take, List.length_drop] at h4
      have h5 : ((l.drop (l.takeWhile p).length).reverse.takeWhile p).length ≤ (l.drop (l.takeWhile p).length).reverse.length := NumText.len_takeWhile _ _
      have h6 : (l.takeWhile p).length ≤ l.length := NumText.len_takeWhile _ _
      rw [List.length_reverse, List.length_drop] at h5
      have h7 : ((l.drop (l.takeWhile p).length).reverse.takeWhile p).length = (l.drop (l.takeWhile p).length).reverse.length := by
        rw [List.length_reverse, List.length_drop]
        have h4 : min (l.length - ((l.drop (l.takeWhile p).length).reverse.takeWhile p).length - (l.takeWhile p).length) (l.length - (l.takeWhile p).length) = 0 := h4
        omega
      have h8 := tw_len h7
      have e : l = l.takeWhile p ++ l.dropWhile p := (List.takeWhile_append_dropWhile).symm
      have ed : l.drop (l.takeWhile p).length = l.dropWhile p := by
        conv => lhs; rw [e]
        rw [List.takeWhile_append_dropWhile]
        conv => lhs; arg 2; rw [e]
        exact List.drop_left
      intro c hcl
      rw [e] at hcl
      rcases List.mem_append.mp hcl with m | m
      · exact List.all_eq_true.mp (List.all_takeWhile) c m
      · exact h8 c (List.mem_reverse.mpr (by rw [ed]; exact m))
  exact fun c m => hc c (key c m)
def isNum (l : List Nat) : Bool := decide (1 ≤ l.length ∧ l.length ≤ 4000) && (l.all fun c => decide (48 ≤ c ∧ c ≤ 57)) && (decide (l = [48]) || decide (l.head? ≠ some 48))
def numV (l : List Nat) : V := if isNum l then .int ((NumText.digitsVal l : Nat) : Int) else .non
def spNumV : Sp := fun vs H Q _ => ∃ l : List Nat, vs = [.str (S l)] ∧ l.length ≤ 16000000 ∧ Q (numV l) H
theorem numV_cases (l : List Nat) : numV l = .non ∨ ∃ n : Nat, numV l = .int (n : Int) := by
  unfold numV
  split
  · exact .inr ⟨_, rfl⟩
  · exact .inl rfl
theorem numV_ty {H : Hp} (l : List Nat) : TyV H (numV l) := by
  rcases numV_cases l with e | ⟨n, e⟩ <;> rw [e] <;> exact trivial
theorem numV_num (n : Nat) (h : (TL.numL n).length ≤ 4000) : numV (TL.numL n) = .int (n : Int) := by
  have hne := TL.numL_ne n
  have hd := TL.numL_digits n
  have e : isNum (TL.numL n) = true := by
    unfold isNum
    rw [Bool.and_eq_true, Bool.and_eq_true]
    refine ⟨⟨decide_eq_true ⟨?_, h⟩, List.all_eq_true.mpr fun c hc => decide_eq_true (hd c hc)⟩, ?_⟩
    · cases z : TL.numL n with
      | nil => exact absurd z hne
      | cons a b => exact Nat.succ_pos _
    · by_cases z : n = 0
      · subst z
        rw [numL_0]
        rfl
      · obtain ⟨c, r, e, hc⟩ := numL_head z
        rw [e, decide_eq_true (show (c :: r).head? ≠ some 48 from fun y => hc (Option.some.inj y)), Bool.or_true]
  unfold numV
  rw [if_pos e, TL.numL_val]
end Z
namespace Z
open PySem PySem.Spec PyProof.Rows L2
open SX (S S_len S_cat S_inj)
def NoHash (n : List Nat) : Prop := ∀ i, ¬ (n[i]? = some 32 ∧ n[i + 1]? = some 35)
theorem rpart_no {l : List Nat} (h : NoHash l) : rpart (S l) (S [32, 35]) = (S [], S [], S l) := by
  unfold rpart
  rcases last_hash l with ⟨e, _⟩ | ⟨i, _, a, _⟩
  · rw [e]
    rfl
  · exact absurd a (h i)
theorem noHash_free {l : List Nat} (h : 35 ∉ l) : NoHash l := fun i a => h (List.mem_of_getElem? a.2)
theorem rpart_at {w n : List Nat} (hn : NoHash n) : rpart (S (w ++ [32, 35] ++ n)) (S [32, 35]) = (S w, S [32, 35], S n) := by
  have hw : (w ++ [32, 35] ++ n)[w.length]? = some 32 := by rw [List.append_assoc, List.getElem?_append_right (Nat.le_refl _), Nat.sub_self]; rfl
  have hw1 : (w ++ [32, 35] ++ n)[w.length + 1]? = some 35 := by rw [List.append_assoc, List.getElem?_append_right (by omega), show w.length + 1 - w.length = 1 by omega]; rfl
  unfold rpart
  rcases last_hash (w ++ [32, 35] ++ n) with ⟨_, h⟩ | ⟨i, h, a, k⟩
  · exact absurd ⟨hw, hw1⟩ (h w.length)
  · obtain rfl : i = w.length := by
      rcases Nat.lt_trichotomy i w.length with z | z | z
      · exact absurd ⟨hw, hw1⟩ (k w.length z)
      · exact z
      · exfalso
        obtain ⟨a1, a2⟩ := a
        by_cases y : i = w.length + 1
        · subst y
          rw [hw1] at a1
          cases a1
        · rw [List.getElem?_append_right (by rw [List.length_append]; show w.length + 2 ≤ _; omega)] at a1 a2
          refine hn (i - (w ++ [32, 35]).length) ⟨a1, ?_⟩
          have e3 : i + 1 - (w ++ [32, 35]).length = i - (w ++ [32, 35]).length + 1 := by rw [List.length_append]; show i + 1 - (w.length + 2) = i - (w.length + 2) + 1; omega
          rw [← e3]
          exact a2
    rw [h]
    show (Builtin.Str.strSub _ _ _, _, Builtin.Str.strSub _ _ _) = _
    rw [sub_S, sub_S, S_len, S_len]
    have e1 : ((w ++ [32, 35] ++ n).drop 0).take (w.length - 0) = w := by
      rw [List.drop_zero, Nat.sub_zero, List.append_assoc]
      exact List.take_left' rfl
    have e2 : ((w ++ [32, 35] ++ n).drop (w.length + [32, 35].length)).take ((w ++ [32, 35] ++ n).length - (w.length + [32, 35].length)) = n := by
      have e3 : (w ++ [32, 35] ++ n).drop (w.length + [32, 35].length) = n := List.drop_left' (by rw [List.length_append])
      rw [e3]
      exact List.take_of_length_le (by rw [List.length_append, List.length_append]; omega)
    rw [e1, e2]
def nV (ws : List Str) (i : Nat) : V := numV (ws.getD i (S [])).cps.toList
def bitW (w : Str) : Str := if w = Str.ofString "-" then Str.ofString "" else w
def recB (ws : List Str) : Bool :=
  if ws.head? = some (Str.ofString "state") ∧ ws.length = 5 then tt (nV ws 1) (nV ws 2) && tt (nV ws 3) (nV ws 4)
  else if ws.head? = some (Str.ofString "frame") ∧ ws.length = 8 ∧ ws.getD 7 (S []) ≠ Str.ofString "" then
    frB (.str (Str.ofString "frame")) (nV ws 1) (jt (nV ws 2) (nV ws 3)) (nV ws 4) (nV ws 5) (nV ws 6) (bitsOf (bitW (ws.getD 7 (S []))))
  else false
theorem recB_len {ws : List Str} (h5 : ws.length ≠ 5) (h8 : ws.length ≠ 8) : recB ws = false := by
  unfold recB
  rw [if_neg (fun z => h5 z.2), if_neg (fun z => h8 z.2.1)]
theorem recB_one : recB [S []] = false := recB_len (by decide) (by decide)
def wordsL (w : Str) : List Str := Txt.split w (Str.ofString " ")
/-- a line that is not valid behind the check c -/
def BadL (c : Int) (bad : Str) : Prop := bad.length ≤ 10000000 ∧ (recB (wordsL (rpart bad (S [32, 35])).1) = false ∨ (rpart bad (S [32, 35])).2.2 ≠ ((toString (chkS c (rpart bad (S [32, 35])).1) : String) : Str))
def signsL : List Nat := (Str.ofString "0123456789abcdefghijklmnopqrstuvwxyz -").cps.toList
theorem numL_inj {n m : Nat} (h : TL.numL n = TL.numL m) : n = m := by
  have := congrArg NumText.digitsVal h
  rw [TL.numL_val, TL.numL_val] at this
  exact this
theorem spl_count : ∀ (l acc : List Nat), (TL.spl [32] 0 acc l).length = l.count 32 + 1
  | [], acc => rfl
  | c :: r, acc => by
    by_cases h : c = 32
    · subst h
      rw [TL.spl_hit (by unfold TL.pre; simp)]
      show (TL.spl [32] 0 [] r).length + 1 = _
      rw [spl_count r [], List.count_cons_self]
    · rw [TL.spl_miss (by unfold TL.pre; simpa using fun e => h e), spl_count r, List.count_cons_of_ne h]
theorem words_S (w : List Nat) : wordsL (S w) = (TL.spl [32] 0 [] w).map S := SX.split_S (by decide) (by decide)
theorem words_count (w : List Nat) : (wordsL (S w)).length = w.count 32 + 1 := by
  rw [words_S, List.length_map, spl_count]
theorem body_tl (r : Rc) : (bodyR r).cps.toList = TL.joinL [32] ((wordsR r).map TL.tl) := by
  show TL.tl (bodyR r) = _
  unfold bodyR
  rw [TL.join_eq, TL.tl_join]
  rfl
theorem joinL_mem {c : Nat} : ∀ ws : List (List Nat), c ∈ TL.joinL [32] ws → c = 32 ∨ ∃ w ∈ ws, c ∈ w
  | [], h => absurd h List.not_mem_nil
  | [w], h => .inr ⟨w, List.mem_cons_self, h⟩
  | w :: x :: y, h => by
    have h : c ∈ w ++ ([32] ++ TL.joinL [32] (x :: y)) := h
    rcases List.mem_append.mp h with h | h
    · exact .inr ⟨w, List.mem_cons_self, h⟩
    · rcases List.mem_append.mp h with h | h
      · exact .inl (List.mem_singleton.mp h)
      · rcases joinL_mem (x :: y) h with h | ⟨v, hv, h⟩
        · exact .inl h
        · exact .inr ⟨v, List.mem_cons_of_mem _ hv, h⟩
theorem join_last (z : List Nat) : ∀ ws : List (List Nat), ∃ X, TL.joinL [32] (ws ++ [z]) = X ++ z
  | [] => ⟨[], rfl⟩
  | [w] => ⟨w ++ [32], by show w ++ ([32] ++ z) = _; rw [List.append_assoc]⟩
  | w :: x :: y => by
    obtain ⟨X, e⟩ := join_last z (x :: y)
    refine ⟨w ++ ([32] ++ X), ?_⟩
    show w ++ ([32] ++ TL.joinL [32] (x :: y ++ [z])) = _
    rw [e, List.append_assoc, List.append_assoc]
theorem word_signs {r : Rc} (ok : RcOk r) : ∀ w ∈ wordsR r, ∀ c ∈ w.cps.toList, c ∈ signsL ∧ c ≠ 32 := by
  have hdg : ∀ c, 48 ≤ c → c ≤ 57 → c ∈ signsL ∧ c ≠ 32 := by
    intro c h1 h2
    have : ∀ k ∈ List.range 10, 48 + k ∈ signsL ∧ 48 + k ≠ 32 := by decide +kernel
    have := this (c - 48) (List.mem_range.mpr (by omega))
    rw [show 48 + (c - 48) = c by omega] at this
    exact this
  have hst : ∀ c ∈ (Str.ofString "state").cps.toList, c ∈ signsL ∧ c ≠ 32 := by decide +kernel
  have hfr : ∀ c ∈ (Str.ofString "frame").cps.toList, c ∈ signsL ∧ c ≠ 32 := by decide +kernel
  have hn : ∀ w ∈ (numsR r).map (fun z => ((toString z : String) : Str)), ∀ c ∈ w.cps.toList, c ∈ signsL ∧ c ≠ 32 := fun w hw c hc => by
    obtain ⟨z, hz, rfl⟩ := List.mem_map.mp hw
    obtain ⟨n, rfl, _⟩ := nums_nat ok z hz
    rw [str_num] at hc
    have := TL.numL_digits n c hc
    exact hdg c this.1 this.2
  cases r with
  | st T =>
    intro w hw
    rcases List.mem_cons.mp hw with rfl | hw
    · exact hst
    · exact hn w hw
  | fr d ns T =>
    intro w hw
    rcases List.mem_append.mp hw with hw | hw
    · rcases List.mem_cons.mp hw with rfl | hw
      · exact hfr
      · exact hn w hw
    · rw [List.mem_singleton.mp hw]
      intro c hc
      have := wst_bin ns (cc d.1 d.2.2.2.1) T ns.length c hc
      unfold IsB at this
      exact hdg c (by omega) (by omega)
theorem body_last {r : Rc} (ok : RcOk r) : ∃ (X z : List Nat), (bodyR r).cps.toList = X ++ z ∧ z ≠ [] ∧ ∀ c ∈ z, c ≠ 32 := by
  have key : ∃ (ws : List Str) (z : Str), wordsR r = ws ++ [z] ∧ z.cps.toList ≠ [] := by
    cases r with
    | st T =>
      obtain ⟨n, e, _⟩ := nums_nat ok T.2.2 (by simp [numsR])
      refine ⟨[Str.ofString "state", ((toString T.1.1 : String) : Str), ((toString T.1.2 : String) : Str), ((toString T.2.1 : String) : Str)], ((toString T.2.2 : String) : Str), rfl, ?_⟩
      rw [e, str_num]
      exact TL.numL_ne n
    | fr d ns T =>
      refine ⟨_, _, rfl, fun z => ?_⟩
      have bp := bits_pos ok
      have z : bitsF d ns T = [] := z
      rw [z] at bp
      exact absurd bp (by decide)
  obtain ⟨ws, z, e, hz⟩ := key
  obtain ⟨X, eX⟩ := join_last (TL.tl z) (ws.map TL.tl)
  refine ⟨X, TL.tl z, ?_, hz, fun c hc => (word_signs ok z (by rw [e]; exact List.mem_append_right _ List.mem_cons_self) c hc).2⟩
  rw [body_tl, e, List.map_append]
  exact eX
theorem body_end {r : Rc} (ok : RcOk r) : ∀ i, i + 1 = (bodyR r).cps.toList.length → (bodyR r).cps.toList[i]? ≠ some 32 := by
  obtain ⟨X, z, e, hz, hc⟩ := body_last ok
  intro i hi h
  rw [e] at h hi
  rw [List.length_append] at hi
  have hp : 1 ≤ z.length := List.length_pos_iff.mpr hz
  rw [List.getElem?_append_right (by omega)] at h
  exact hc 32 (List.mem_of_getElem? h) rfl
section
variable {r : Rc} {c : Int} {n : Nat}
theorem num_free (n : Nat) : 35 ∉ TL.numL n := TL.numL_free (.inl (by decide))
theorem bad_none {c : Int} {l : List Nat} (h : NoHash l) (hl : l.length ≤ 10000000) : BadL c (S l) := by
  refine ⟨by rw [S_len]; exact hl, .inl ?_⟩
  rw [rpart_no h]
  show recB (wordsL (S [])) = false
  rw [show wordsL (S []) = [S []] from split_none]
  exact recB_one
theorem bad_num {c : Int} {b m : List Nat} {n : Nat} (e : (n : Int) = chkS c (S b)) (hm : NoHash m) (hne : m ≠ TL.numL n) (hl : b.length + 2 + m.length ≤ 10000000) : BadL c (S (b ++ [32, 35] ++ m)) := by
  refine ⟨by rw [S_len, List.length_append, List.length_append]; exact hl, .inr ?_⟩
  rw [rpart_at hm]
  show S m ≠ ((toString (chkS c (S b)) : String) : Str)
  rw [← e, str_num]
  exact fun z => hne (S_inj z)
end
end Z
namespace Z
open PySem PySem.Spec PyProof.Rows L2
open SX (S S_len S_cat S_inj)
/-- the record that words denote -/
def RecSh (H : Hp) (v : V) (ws : List Str) : Prop := ∃ a, v = .ref a ∧
  ((∃ t t1 t2, ws.length = 5 ∧ ws.head? = some (Str.ofString "state") ∧ H a = some (.tup [.str (Str.ofString "state"), .ref t]) ∧ H t = some (.tup [.ref t1, .ref t2]) ∧ H t1 = some (.tup [nV ws 1, nV ws 2]) ∧ H t2 = some (.tup [nV ws 3, nV ws 4])) ∨
   (∃ j, ws.length = 8 ∧ ws.head? = some (Str.ofString "frame") ∧ H a = some (.tup [.str (Str.ofString "frame"), nV ws 1, .ref j, nV ws 4, nV ws 5, nV ws 6, .str (bitW (ws.getD 7 (S [])))]) ∧ H j = some (.tup [nV ws 2, nV ws 3])))
theorem RecSh.same {H H' : Hp} {v : V} {ws : List Str} (s : Same H H') (h : RecSh H v ws) : RecSh H' v ws := by
  obtain ⟨a, e, ⟨t, t1, t2, h1, h0, h2, h3, h4, h5⟩ | ⟨j, h1, h0, h2, h3⟩⟩ := h
  · exact ⟨a, e, .inl ⟨t, t1, t2, h1, h0, s _ _ h2, s _ _ h3, s _ _ h4, s _ _ h5⟩⟩
  · exact ⟨a, e, .inr ⟨j, h1, h0, s _ _ h2, s _ _ h3⟩⟩
theorem nV_num {ws : List Str} {i n : Nat} (h : ws[i]? = some ((toString ((n : Nat) : Int) : String) : Str)) (hn : n < 2 ^ 200) : nV ws i = .int (n : Int) := by
  unfold nV
  rw [List.getD_eq_getElem?_getD, h]
  show numV (((toString ((n : Nat) : Int) : String) : Str)).cps.toList = _
  rw [str_num]
  exact numV_num n (Nat.le_trans (num_len hn) (by decide))
theorem st_ne_frS : ¬ Str.ofString "frame" = Str.ofString "state" := by decide +kernel
theorem bitW_bits {d : Hd} {ns : List Int} {T : Tb × Tb} (ok : RcOk (.fr d ns T)) : bitW (SX.S (bitsF d ns T)) = SX.S (bitsF d ns T) := by
  unfold bitW
  refine if_neg fun z => ?_
  have bb : ∀ c ∈ bitsF d ns T, IsB c := (bitsF_len ok).2
  have z : SX.S (bitsF d ns T) = SX.S [45] := z
  have z := SX.S_inj z
  rw [z] at bb
  have := bb 45 List.mem_cons_self
  unfold IsB at this
  omega
section
variable {r : Rc}
theorem words_nV (ok : RcOk r) : (∀ T, r = .st T → nV (wordsR r) 1 = .int T.1.1 ∧ nV (wordsR r) 2 = .int T.1.2 ∧ nV (wordsR r) 3 = .int T.2.1 ∧ nV (wordsR r) 4 = .int T.2.2) ∧
    ∀ d ns T, r = .fr d ns T → nV (wordsR r) 1 = .int (d.1 : Nat) ∧ nV (wordsR r) 2 = .int (d.2.1 : Nat) ∧ nV (wordsR r) 3 = .int (d.2.2.1 : Nat) ∧ nV (wordsR r) 4 = .int (d.2.2.2.1 : Nat) ∧ nV (wordsR r) 5 = .int (d.2.2.2.2 : Nat) ∧ nV (wordsR r) 6 = .int (markF ns) := by
  have key : ∀ z ∈ numsR r, ∀ i, (wordsR r)[i]? = some ((toString z : String) : Str) → nV (wordsR r) i = .int z := fun z hz i h => by
    obtain ⟨n, rfl, hn⟩ := nums_nat ok z hz
    exact nV_num h hn
  refine ⟨fun T e => ?_, fun d ns T e => ?_⟩
  · subst e
    exact ⟨key _ (by simp [numsR]) 1 rfl, key _ (by simp [numsR]) 2 rfl, key _ (by simp [numsR]) 3 rfl, key _ (by simp [numsR]) 4 rfl⟩
  · subst e
    exact ⟨key _ (by simp [numsR]) 1 rfl, key _ (by simp [numsR]) 2 rfl, key _ (by simp [numsR]) 3 rfl, key _ (by simp [numsR]) 4 rfl, key _ (by simp [numsR]) 5 rfl, key _ (by simp [numsR]) 6 rfl⟩
theorem RecSh.rc {K : PySem.W.Frag} {H : Hp} {v : V} (ok : RcOk r) (h : RecSh H v (wordsR r)) : RcAt K H v r := by
  obtain ⟨n1, n2⟩ := words_nV ok
  obtain ⟨a, e, ⟨t, t1, t2, h1, h0, h2, h3, h4, h5⟩ | ⟨j, h1, h0, h2, h3⟩⟩ := h
  · cases r with
    | st T =>
      obtain ⟨a1, a2, a3, a4⟩ := n1 T rfl
      rw [a1, a2] at h4
      rw [a3, a4] at h5
      exact ⟨a, t, e, h2, t1, t2, .of h3, .of h4, .of h5⟩
    | fr d ns T => exact absurd h1 (by show ¬ (8 : Nat) = 5; decide)
  · cases r with
    | st T => exact absurd h1 (by show ¬ (5 : Nat) = 8; decide)
    | fr d ns T =>
      obtain ⟨a1, a2, a3, a4, a5, a6⟩ := n2 d ns T rfl
      rw [a1, a4, a5, a6] at h2
      rw [a2, a3] at h3
      have e7 : bitW ((wordsR (.fr d ns T)).getD 7 (S [])) = SX.S (bitsF d ns T) := bitW_bits ok
      rw [e7] at h2
      exact ⟨a, j, e, h2, h3⟩
theorem recB_words (ok : RcOk r) : recB (wordsR r) = true := by
  obtain ⟨n1, n2⟩ := words_nV ok
  unfold recB
  cases r with
  | st T =>
    obtain ⟨a1, a2, a3, a4⟩ := n1 T rfl
    obtain ⟨⟨o1, o2, o3, o4⟩, p1, p2, p3, p4⟩ := ok
    rw [if_pos ⟨rfl, rfl⟩, a1, a2, a3, a4]
    unfold tt
    simp only [isI, geZ, inI]
    simp [o1, o3, o4, p1, p3, p4]
  | fr d ns T =>
    obtain ⟨a1, a2, a3, a4, a5, a6⟩ := n2 d ns T rfl
    have hb := bits_ok (bitsF_len ok).2
    have e7 : bitW ((wordsR (.fr d ns T)).getD 7 (S [])) = SX.S (bitsF d ns T) := bitW_bits ok
    have hne : (wordsR (.fr d ns T)).getD 7 (S []) ≠ Str.ofString "" := fun z => by
      have z : SX.S (bitsF d ns T) = Str.ofString "" := z
      rw [e_empty] at z
      have bp := bits_pos ok
      rw [SX.S_inj z] at bp
      exact absurd bp (by decide)
    rw [if_neg (fun z => st_ne_frS (Option.some.inj z.1)), if_pos ⟨rfl, rfl, hne⟩, a1, a2, a3, a4, a5, a6, e7, hb]
    obtain ⟨⟨k1, k2, k3, k4, k5, k6, k7, k8⟩, _⟩ := ok
    obtain ⟨m0, m1⟩ := markF_bound ns
    rw [jt_ok (j := (0, d.2.1, d.2.2.1)) k3 k4 k5]
    unfold frB layB
    simp only [inI]
    rw [decide_eq_true (show (1 : Int) ≤ (d.1 : Nat) ∧ ((d.1 : Nat) : Int) ≤ 64 by omega), decide_eq_true (show (0 : Int) ≤ (d.2.2.2.1 : Nat) ∧ ((d.2.2.2.1 : Nat) : Int) ≤ 5 by omega), decide_eq_true (show (1 : Int) ≤ (d.2.2.2.2 : Nat) ∧ ((d.2.2.2.2 : Nat) : Int) ≤ 64 by omega), decide_eq_true (show (0 : Int) ≤ markF ns ∧ markF ns ≤ 9972 by omega)]
    rfl
end
def spRecV : Sp := fun vs H Q _ => ∃ (a : Addr) (ws : List Str), vs = [.ref a] ∧ H a = some (.lst (ws.map V.str)) ∧ ws ≠ [] ∧ (∀ w ∈ ws, w.length ≤ 16000000) ∧ ∀ v H', Same H H' → (recB ws = true → RecSh H' v ws) → (recB ws = false → v = .non) → Q v H'
theorem use_recV {a : Addr} {ws : List Str} {H : Hp} {Q : VK} {E : XK} (h : H a = some (.lst (ws.map V.str))) (hne : ws ≠ []) (hl : ∀ w ∈ ws, w.length ≤ 16000000) (q : ∀ v H', Same H H' → (recB ws = true → RecSh H' v ws) → (recB ws = false → v = .non) → Q v H') : spRecV ([.ref a] ++ []) H Q E := ⟨a, ws, rfl, h, hne, hl, q⟩
theorem lc_numV {K : PySem.W.Frag} {σ : L2.St} {Q : VK} {vs : List Nat} {k : Nat} {a D : Addr} {xs : List Str} {H1 : Hp} {te : TE} (hS : SqL K H1 a (xs.map V.str)) (hn : xs.length ≤ 1000) (hw : ∀ v, wipe ((wipe σ vs).set k (some v)) vs = wipe σ vs) (hD : H1 D = none)
    (turn : ∀ z ∈ xs, ∀ (H : Hp) (Q' : VK), Same H1 H → Q' (numV z.cps.toList) H → te ((wipe σ vs).set k (some (.str z))) H Q')
    (q : ∀ H', Same H1 H' → H' D = some (.lst (xs.map fun z => numV z.cps.toList)) → Q (.ref D) H') : LcW (Itl K a) (gName k) tYes te vs Q σ H1 D := by
  refine lc_list (xs := xs.map V.str) (Pv := fun j H => Same H1 H ∧ H D = some (.lst ((xs.map fun z => numV z.cps.toList).take j))) ⟨same_new hD, upd_same⟩ (fun j H _ hI => hI.1.seq hS) (fun j v H hv hI => ?_) (fun H hI => ?_)
  · obtain ⟨hs, hd⟩ := hI
    rw [List.getElem?_map] at hv
    cases e : xs[j]? with
    | none => rw [e] at hv; cases hv
    | some z =>
      rw [e] at hv
      obtain rfl := (Option.some.inj hv).symm
      have hj := (List.getElem?_eq_some_iff.mp e).1
      refine ⟨hw _, rd_yes ?_⟩
      refine turn z (List.mem_of_getElem? e) H _ hs ⟨_, hd, small1000 (by rw [List.length_take, List.length_map]; omega), ?_, ?_⟩
      · exact fun b o e => by rw [upd_ne (ne_of_none e hD)]; exact hs _ _ e
      · rw [upd_same, List.take_add_one, List.getElem?_map, e]
        rfl
  · obtain ⟨hs, hd⟩ := hI
    rw [List.take_of_length_le (by rw [List.length_map, List.length_map]; exact Nat.le_refl _)] at hd
    exact q H hs hd
theorem use_nbW {w : Str} {H : Hp} {Q : VK} {E : XK} (h : w.length ≤ 16000000) (q : Q (numV w.cps.toList) H) : spNumV ([.str w] ++ []) H Q E := ⟨w.cps.toList, rfl, h, q⟩
theorem cut17 (xs : List V) (h : 1 ≤ xs.length) : cutV xs (some 1) (some 7) = (xs.drop 1).take 6 := by
  unfold cutV
  rw [show HT.sIx xs.length 0 (some (1 : Int)) = min 1 xs.length from HT.sIx_nat _ _ 1, show HT.sIx xs.length xs.length (some (7 : Int)) = min 7 xs.length from HT.sIx_nat _ _ 7, Nat.min_eq_left h]
  by_cases c : 7 ≤ xs.length
  · rw [Nat.min_eq_left c]
  · rw [Nat.min_eq_right (by omega), List.take_of_length_le (by rw [List.length_drop]; omega), List.take_of_length_le (by rw [List.length_drop]; omega)]
/-- the forms of words -/
theorem words_forms {ws : List Str} (hne : ws ≠ []) : (∃ w1 w2 w3 w4, ws = [Str.ofString "state", w1, w2, w3, w4]) ∨ (∃ w1 w2 w3 w4 w5 w6 w7, ws = [Str.ofString "frame", w1, w2, w3, w4, w5, w6, w7] ∧ w7 ≠ Str.ofString "") ∨
    ∃ w0 r, ws = w0 :: r ∧ ¬ (w0 = Str.ofString "state" ∧ r.length = 4) ∧ (w0 = Str.ofString "frame" → r.length = 7 → ws.getD 7 (S []) = Str.ofString "") := by
  cases ws with
  | nil => exact absurd rfl hne
  | cons w0 r =>
    by_cases h1 : w0 = Str.ofString "state" ∧ r.length = 4
    · obtain ⟨rfl, h⟩ := h1
      match r, h with
      | [w1, w2, w3, w4], _ => exact .inl ⟨w1, w2, w3, w4, rfl⟩
    · by_cases h2 : w0 = Str.ofString "frame" ∧ r.length = 7 ∧ (w0 :: r).getD 7 (S []) ≠ Str.ofString ""
      · obtain ⟨rfl, h, h7⟩ := h2
        match r, h, h7 with
        | [w1, w2, w3, w4, w5, w6, w7], _, h7 => exact .inr (.inl ⟨w1, w2, w3, w4, w5, w6, w7, rfl, h7⟩)
      · refine .inr (.inr ⟨w0, r, rfl, h1, fun a b => ?_⟩)
        by_cases z : (w0 :: r).getD 7 (S []) = Str.ofString ""
        · exact z
        · exact absurd ⟨a, b, z⟩ h2
theorem recB_no {w0 : Str} {r : List Str} (h1 : ¬ (w0 = Str.ofString "state" ∧ r.length = 4)) (h2 : w0 = Str.ofString "frame" → r.length = 7 → (w0 :: r).getD 7 (S []) = Str.ofString "") : recB (w0 :: r) = false := by
  unfold recB
  rw [if_neg (fun z => h1 ⟨Option.some.inj z.1, Nat.succ.inj z.2⟩), if_neg (fun z => z.2.2 (h2 (Option.some.inj z.1) (Nat.succ.inj z.2.1)))]
theorem rpart_len {a b b1 b2 b3 : Str} (e : rpart a b = (b1, b2, b3)) : b1.length ≤ a.length := by
  unfold rpart at e
  split at e
  · rename_i i _
    have e1 := congrArg Prod.fst e
    have e1 : Builtin.Str.strSub a 0 i = b1 := e1
    rw [← e1, str_S a, sub_S, S_len, List.length_take, List.length_drop]
    show min _ _ ≤ (S a.cps.toList).length
    rw [S_len]
    omega
  · have e1 : Str.empty = b1 := congrArg Prod.fst e
    rw [← e1]
    exact Nat.zero_le _
theorem spl_ne (S : List Nat) : ∀ (k : Nat) (l acc : List Nat), TL.spl S k acc l ≠ []
  | k, [], acc => by rw [TL.spl_nil]; exact List.cons_ne_nil _ _
  | 0, c :: r, acc => by
    show (if TL.pre S (c :: r) = true then acc :: TL.spl S (S.length - 1) [] r else TL.spl S 0 (acc ++ [c]) r) ≠ []
    split
    · exact List.cons_ne_nil _ _
    · exact spl_ne S 0 r _
  | k + 1, c :: r, acc => spl_ne S k r acc
theorem spl_len (S : List Nat) (m : Nat) : ∀ (k : Nat) (l acc : List Nat), acc.length + l.length ≤ m → ∀ w ∈ TL.spl S k acc l, w.length ≤ m
  | k, [], acc, h, w, hw => by
    rw [TL.spl_nil] at hw
    rw [List.mem_singleton.mp hw]
    exact h
  | 0, c :: r, acc, h, w, hw => by
    rw [List.length_cons] at h
    have hw : w ∈ (if TL.pre S (c :: r) = true then acc :: TL.spl S (S.length - 1) [] r else TL.spl S 0 (acc ++ [c]) r) := hw
    split at hw
    · rcases List.mem_cons.mp hw with rfl | hw
      · omega
      · exact spl_len S m _ r [] (by rw [List.length_nil]; omega) w hw
    · exact spl_len S m 0 r _ (by rw [List.length_append]; show acc.length + 1 + r.length ≤ m; omega) w hw
  | k + 1, c :: r, acc, h, w, hw => spl_len S m k r acc (by rw [List.length_cons] at h; omega) w hw
theorem wordsL_ne (b : Str) : wordsL b ≠ [] := by
  rw [str_S b, words_S]
  exact fun z => spl_ne _ _ _ _ (List.map_eq_nil_iff.mp z)
theorem wordsL_len (b : Str) : ∀ w ∈ wordsL b, w.length ≤ b.length := by
  intro w hw
  rw [str_S b, words_S] at hw
  obtain ⟨v, hv, rfl⟩ := List.mem_map.mp hw
  rw [S_len]
  refine spl_len _ _ _ _ _ ?_ v hv
  rw [List.length_nil, Nat.zero_add]
  exact Nat.le_refl _
theorem le_sumN : ∀ (l : List Nat) (x : Nat), x ∈ l → x ≤ l.sum
  | [], _, h => absurd h List.not_mem_nil
  | y :: r, x, h => by
    rw [List.sum_cons]
    rcases List.mem_cons.mp h with rfl | h
    · omega
    · have := le_sumN r x h
      omega
structure FIW (K : PySem.W.Frag) (F : Addr) (H0 H : Hp) (rs : List Rc) (Te : Tb × Tb) (w : Nat) (i : Nat) (fms : List V) (dn : List Fm) (t : Addr) (T : Tb × Tb) (pl : Nat) (jl : Addr) (lj : Nat × Nat) : Prop where
  eF : H F = some (.lst fms)
  nF : H0 F = none
  fm : FmsAt K [F] H fms dn
  sp : frR 0 0 (0, 0) rs = dn ++ frR i pl lj (rs.drop i)
  vd : Vd T lj.1 (rs.drop i) Te w
  jt : JtV K H jl lj
  j0 : lj.1 = 0 → lj.2 = 0
  tb : TbsV K H t T
  sm : Same H0 H
  le : dn.length ≤ i
  nz : lj.1 = 0 ∨ dn ≠ []
section
variable {K : PySem.W.Frag} {F t jl : Addr} {H0 H H' : Hp} {rs : List Rc} {Te T : Tb × Tb} {w i pl : Nat} {fms : List V} {dn : List Fm} {lj : Nat × Nat}
theorem FIW.same (h : FIW K F H0 H rs Te w i fms dn t T pl jl lj) (s : Same H H') : FIW K F H0 H' rs Te w i fms dn t T pl jl lj :=
  { h with eF := s _ _ h.eF, fm := h.fm.imp fun _ _ q => q.same s, jt := h.jt.lk (.of s), tb := h.tb.lk (.of s), sm := h.sm.trans s }
theorem FIW.len (h : FIW K F H0 H rs Te w i fms dn t T pl jl lj) : fms.length ≤ i := by rw [h.fm.len]; exact h.le
theorem FIW.st (h : FIW K F H0 H rs Te w i fms dn t T pl jl lj) {T' : Tb × Tb} {r : List Rc} (e : rs.drop i = .st T' :: r) (e' : rs.drop (i + 1) = r) {t' : Addr} (ht : TbsV K H t' T') : FIW K F H0 H rs Te w (i + 1) fms dn t' T' pl jl lj := by
  have sp := h.sp
  have vd := h.vd
  rw [e] at sp vd
  exact { h with sp := by rw [e']; exact sp, vd := by rw [e']; exact vd.2, tb := ht, le := Nat.le_succ_of_le h.le }
theorem FIW.fr (h : FIW K F H0 H rs Te w i fms dn t T pl jl lj) {d : Hd} {ns : List Int} {T0 : Tb × Tb} {r : List Rc} (e : rs.drop i = .fr d ns T0 :: r) (e' : rs.drop (i + 1) = r) {v : V} {q j : Addr} (hv : FmAt K [F] H v (i, pl, d, lj, ns, T)) (hj : JtAt H j (d.2.1, d.2.2.1)) (hq : TbsV K H q (nextF d ns T)) :
    FIW K F H0 (upd H F (.lst (fms ++ [v]))) rs Te w (i + 1) (fms ++ [v]) (dn ++ [(i, pl, d, lj, ns, T)]) q (nextF d ns T) (pl + d.1) j (d.2.1, d.2.2.1) := by
  have sp := h.sp
  have vd := h.vd
  rw [e] at sp vd
  obtain ⟨rfl, v2, v3, v4, v5, v6, v7⟩ := vd
  have lk : LK H (upd H F (.lst (fms ++ [v]))) := LK.at h.eF
  have kp : KpL [F] H (upd H F (.lst (fms ++ [v]))) := KpL.at (by simp)
  exact { eF := upd_same, nF := h.nF, fm := (h.fm.imp fun _ _ q => q.kp lk kp).app (hv.kp lk kp)
          sp := by rw [e', sp, List.append_assoc]; rfl
          vd := by rw [e']; exact v7
          jt := (hj.lk lk).v, j0 := v2.2.2.2.2.1, tb := hq.lk lk
          sm := fun b o eb => by rw [upd_ne (ne_of_none eb h.nF)]; exact h.sm _ _ eb
          le := by rw [List.length_append]; exact Nat.succ_le_succ h.le
          nz := .inr (by simp) }
end
theorem fms_last {K : PySem.W.Frag} {l : List Addr} {H : Hp} {fms : List V} {ds : List Fm} {f : Fm} (h : FmsAt K l H fms (ds ++ [f])) : ∃ vs v, fms = vs ++ [v] ∧ vs.length = ds.length ∧ FmAt K l H v f := by
  have hl := h.len
  rw [List.length_append] at hl
  have hne : fms ≠ [] := fun z => by rw [z] at hl; cases hl
  have e := (List.dropLast_concat_getLast hne).symm
  obtain ⟨vs, v, e⟩ : ∃ vs v, fms = vs ++ [v] := ⟨_, _, e⟩
  subst e
  have hvl : vs.length = ds.length := by
    rw [List.length_append] at hl
    exact Nat.succ.inj hl
  refine ⟨vs, v, rfl, hvl, ?_⟩
  have hg : (vs ++ [v])[vs.length]? = some v := by rw [List.getElem?_append_right (Nat.le_refl _), Nat.sub_self]; rfl
  obtain ⟨b, r, h1, h2, _⟩ := h.get _ _ hg
  rw [hvl, List.drop_left] at h2
  rw [(List.cons.inj h2).1]
  exact h1
theorem rd_neT2n {K : PySem.W.Frag} {H : Hp} {Q : VK} {p q : Addr} {a b c d : Int} (hp : SqT K H p [.int a, .int b]) (hq : SqT K H q [.int c, .int d]) (e1 : a ≠ c) (h : Q (.bl true) H) : rNeD K (.ref p) (.ref q) H Q :=
  ⟨_, _, .tup hp (dp_ints [a, b]), .tup hq (dp_ints [c, d]), rfl, rfl, by
    have e : PyData.eqv (.tuple ([a, b].map PyData.int)) (.tuple ([c, d].map PyData.int)) = false := by simp [PyData.eqv, PyData.eqvAll, e1]
    rw [e]
    exact h⟩
theorem rd_raiseR {K : PySem.W.Frag} {σ : L2.St} {H H1 : Hp} {C : Addr} {f : Str} {W : WX} {D : Ends} {te : TE} {v : V} (h : ∀ Q : VK, Q v H1 → te σ H Q) (h2 : ∀ d, H1 d = none → W (.ref C) (some d) σ (upd H1 d (.xd [(f, v)]))) : tRaiseX K C f W (tCons te tNil) D σ H := by
  show te σ H _
  refine h _ ?_
  refine ⟨by simp, fun a ha => ⟨a, v, rfl, upd_same, fun dx hdx hne => ⟨rfl, dx, [(f, v)], upd_same, ?_, ?_, ?_⟩⟩⟩
  · rw [upd_ne hne, upd_same]
  · rw [upd_ne hne] at hdx
    exact hdx
  · rw [mk_heap ha hne]
    rw [upd_ne hne] at hdx
    exact h2 dx hdx
/-- how an error leaves from a place where only x was changed -/
def ErrP (C : Addr) (f : Str) (v : V) (x : Addr) (H : Hp) (E : XK) : Prop := ∀ d H', Kp x H H' → H d = none → H' d = some (.xd [(f, v)]) → E (.ref C) (some d) H'
theorem nd_ {x d : Addr} {o' : HO} {H H1 : Hp} (n : H1 d = none) (k : Kp x H H1) (hx : H1 x = some o') : H d = none := by
  cases e : H d with
  | none => rfl
  | some o =>
    by_cases z : d = x
    · rw [z, hx] at n
      cases n
    · rw [k d o z e] at n
      cases n
theorem Vd.take : ∀ {rs : List Rc} {T : Tb × Tb} {l : Nat} {T2 : Tb × Tb} {l2 : Nat} (k : Nat), Vd T l rs T2 l2 → ∃ T3 l3, Vd T l (rs.take k) T3 l3
  | _, T, l, _, _, 0, _ => ⟨T, l, rfl, rfl⟩
  | [], T, l, _, _, k + 1, _ => ⟨T, l, rfl, rfl⟩
  | .st T' :: rs, T, l, _, _, k + 1, ⟨h, q⟩ => by
    obtain ⟨T3, l3, z⟩ := Vd.take k q
    exact ⟨T3, l3, h, z⟩
  | .fr d ns T' :: rs, T, l, _, _, k + 1, ⟨e, h2, h3, h4, h5, h6, q⟩ => by
    obtain ⟨T3, l3, z⟩ := Vd.take k q
    exact ⟨T3, l3, e, h2, h3, h4, h5, h6, z⟩
theorem rd_addS {i j : List Nat} {H : Hp} {Q : VK} (l : (i ++ j).length ≤ 16777216) (h : Q (.str (S (i ++ j))) H) : rAddT (.str (S i)) (.str (S j)) H Q := ⟨i, j, rfl, rfl, by rw [← List.length_append]; exact l, h⟩
end Z
namespace Z
open PySem PySem.Spec PyProof.Rows L2
open SX (S S_len S_cat S_inj)
def bodW (ws : List Str) : Str := Txt.join (Str.ofString " ") ws
def chkW (c : Int) (xs : List (List Str)) : Int := xs.foldl (fun c ws => chkS c (bodW ws)) c
def linesW : Int → List (List Str) → List Str
  | _, [] => []
  | c, ws :: xs => lineS (bodW ws) (chkS c (bodW ws)) :: linesW (chkS c (bodW ws)) xs
structure WdOk (ws : List Str) : Prop where
  re : recB ws = true
  ne : ws ≠ []
  fr : ∀ w ∈ ws, ∀ c ∈ w.cps.toList, c ≠ 32 ∧ c ≠ 10 ∧ c ≠ 35
  ln : (ws.map (·.length)).sum + ws.length ≤ 90000
theorem linesW_R : ∀ (rs : List Rc) (c : Int), linesW c (rs.map wordsR) = linesR c rs
  | [], _ => rfl
  | r :: rs, c => congrArg (lineS (bodyR r) (chkS c (bodyR r)) :: ·) (linesW_R rs _)
theorem chkW_R : ∀ (rs : List Rc) (c : Int), chkW c (rs.map wordsR) = chkR c rs
  | [], _ => rfl
  | r :: rs, c => chkW_R rs (chkS c (bodyR r))
theorem linesW_length : ∀ (xs : List (List Str)) (c : Int), (linesW c xs).length = xs.length
  | [], _ => rfl
  | _ :: xs, _ => congrArg (· + 1) (linesW_length xs _)
theorem linesW_app : ∀ (xs ys : List (List Str)) (c : Int), linesW c (xs ++ ys) = linesW c xs ++ linesW (chkW c xs) ys
  | [], _, _ => rfl
  | ws :: xs, ys, c => congrArg (lineS (bodW ws) (chkS c (bodW ws)) :: ·) (linesW_app xs ys _)
theorem chkW_app (c : Int) (xs ys : List (List Str)) : chkW c (xs ++ ys) = chkW (chkW c xs) ys := by
  unfold chkW
  rw [List.foldl_append]
theorem chkW_le : ∀ (xs : List (List Str)) (c : Int), 0 ≤ c → c < 1000003 → 0 ≤ chkW c xs ∧ chkW c xs < 1000003
  | [], c, h0, h1 => ⟨h0, h1⟩
  | ws :: xs, c, h0, h1 =>
    have h := chkL_le (c := c) ⟨h0, h1⟩ (bodW ws).cps.toList
    chkW_le xs (chkS c (bodW ws)) h.1 h.2
theorem linesW_get : ∀ (xs : List (List Str)) (c : Int) (i : Nat) (ws : List Str), xs[i]? = some ws → (linesW c xs)[i]? = some (lineS (bodW ws) (chkS (chkW c (xs.take i)) (bodW ws)))
  | [], _, i, _, h => by simp at h
  | x :: xs, c, 0, ws, h => by
    obtain rfl : x = ws := by simpa using h
    rfl
  | x :: xs, c, i + 1, ws, h => by
    have h' : xs[i]? = some ws := by simpa using h
    have := linesW_get xs (chkS c (bodW x)) i ws h'
    show (linesW (chkS c (bodW x)) xs)[i]? = _
    rw [this]
    rfl
theorem chkW_take {xs : List (List Str)} {i : Nat} {ws : List Str} (c : Int) (h : xs[i]? = some ws) : chkW c (xs.take (i + 1)) = chkS (chkW c (xs.take i)) (bodW ws) := by
  rw [List.take_add_one, h, chkW_app]
  rfl
section
variable {ws : List Str}
theorem one_sp : (Str.ofString " ").length = 1 := by decide +kernel
theorem WdOk.split (h : WdOk ws) : Txt.split (bodW ws) (Str.ofString " ") = ws :=
  TL.split_join (y := Str.ofString " ") (s := 32) (S := []) rfl (by decide +kernel) h.ne fun w hw hm => (h.fr w hw 32 hm).1 rfl
theorem WdOk.len (h : WdOk ws) : (bodW ws).length ≤ 90000 := by
  have h1 := txt_join_le (Str.ofString " ") ws
  rw [one_sp, Nat.mul_one] at h1
  exact Nat.le_trans h1 h.ln
theorem WdOk.wlen (h : WdOk ws) : ∀ w ∈ ws, w.length ≤ 16000000 := fun w hw => by
  have h1 := le_sumN (ws.map (·.length)) w.length (List.mem_map_of_mem hw)
  have h2 := h.ln
  omega
theorem WdOk.free (h : WdOk ws) : ∀ c ∈ (bodW ws).cps.toList, c ≠ 10 ∧ c ≠ 35 := by
  have e : (bodW ws).cps.toList = TL.joinL [32] (ws.map TL.tl) := by
    show TL.tl (bodW ws) = _
    unfold bodW
    rw [TL.join_eq, TL.tl_join]
    rfl
  intro c hc
  rw [e] at hc
  rcases joinL_mem _ hc with rfl | ⟨w, hw, hc⟩
  · exact ⟨by decide, by decide⟩
  · obtain ⟨v, hv, rfl⟩ := List.mem_map.mp hw
    exact (h.fr v hv c hc).2
end
theorem WdOk.good {r : Rc} (ok : RcOk r) : WdOk (wordsR r) where
  re := recB_words ok
  ne := by cases r <;> exact List.cons_ne_nil _ _
  fr := word_free ok
  ln := by
    have := words_fit ok
    rw [one_sp, Nat.mul_one] at this
    omega
theorem lineW_len {ws : List Str} {c : Int} (ok : WdOk ws) (h0 : 0 ≤ c) (h1 : c < 1000003) : (lineS (bodW ws) c).length ≤ 95000 := by
  have h2 := ok.len
  have h3 : (((toString c : String) : Str)).length ≤ 1921 := int_len (by omega)
  unfold lineS
  rw [Str.length_append, Str.length_append, show (Str.ofString " #").length = 2 by decide +kernel]
  omega
def SplY (x : Str) (xs : List (List Str)) (rest : List Str) : Prop := (∀ ws ∈ xs, WdOk ws) ∧ x.length ≤ 10000000 ∧ (x.length = 0 → xs = [] ∧ rest = []) ∧ (x.length ≠ 0 → Txt.split x (Str.ofString "\n") = linesW 1 xs ++ rest) ∧ (rest = [] ∨ ∃ bad t, rest = bad :: t ∧ BadL (chkW 1 xs) bad)
def NoStr (H : Hp) (v : V) : Prop := TyV H v ∧ ∀ s, v ≠ .str s
def wrongY (xs : List (List Str)) (rest : List Str) : V := match rest with
  | [] => .non
  | _ :: _ => .int ((xs.length + 1 : Nat) : Int)
abbrev RsSh (H : Hp) (refs : List V) (xs : List (List Str)) : Prop := All2 (RecSh H) refs xs
theorem RsSh.same {H H' : Hp} {refs : List V} {xs : List (List Str)} (s : Same H H') (h : RsSh H refs xs) : RsSh H' refs xs := h.imp fun _ _ z => z.same s
def RecSh.lk_ {H H' : Hp} {v : V} {ws : List Str} (s : LK H H') (h : RecSh H v ws) : RecSh H' v ws := by
  obtain ⟨a, e, ⟨t, t1, t2, h1, h0, h2, h3, h4, h5⟩ | ⟨j, h1, h0, h2, h3⟩⟩ := h
  · exact ⟨a, e, .inl ⟨t, t1, t2, h1, h0, s _ _ h2 (fun _ z => nomatch z), s _ _ h3 (fun _ z => nomatch z), s _ _ h4 (fun _ z => nomatch z), s _ _ h5 (fun _ z => nomatch z)⟩⟩
  · exact ⟨a, e, .inr ⟨j, h1, h0, s _ _ h2 (fun _ z => nomatch z), s _ _ h3 (fun _ z => nomatch z)⟩⟩
theorem RsSh.lk {H H' : Hp} {refs : List V} {xs : List (List Str)} (s : LK H H') (h : RsSh H refs xs) : RsSh H' refs xs := h.imp fun _ _ z => RecSh.lk_ s z
def spValidY (C : Addr) : Sp := fun vs H Q E => (∃ v, vs = [v] ∧ NoStr H v ∧ Err C "line" .non H E) ∨ ∃ (x : Str) (xs : List (List Str)) (rest : List Str), vs = [.str x] ∧ SplY x xs rest ∧ xs.length ≤ 60 ∧ ∀ p D refs H', Same H H' → H p = none → H D = none → H' p = some (.tup [.ref D, wrongY xs rest]) → H' D = some (.lst refs) → RsSh H' refs xs → Q (.ref p) H'
theorem use_validY {C : Addr} {x : Str} {xs : List (List Str)} {rest : List Str} {H : Hp} {Q : VK} {E : XK} (hx : SplY x xs rest) (l : xs.length ≤ 60) (q : ∀ p D refs H', Same H H' → H p = none → H D = none → H' p = some (.tup [.ref D, wrongY xs rest]) → H' D = some (.lst refs) → RsSh H' refs xs → Q (.ref p) H') : spValidY C ([.str x] ++ []) H Q E := .inr ⟨x, xs, rest, rfl, hx, l, q⟩
theorem use_validN {C : Addr} {v : V} {H : Hp} {Q : VK} {E : XK} (h : NoStr H v) (e : Err C "line" .non H E) : spValidY C ([v] ++ []) H Q E := .inl ⟨v, rfl, h, e⟩
def spRecovY (C : Addr) : Sp := fun vs H Q E => (∃ v, vs = [v] ∧ NoStr H v ∧ Err C "line" .non H E) ∨ ∃ (x : Str) (xs : List (List Str)) (rest : List Str), vs = [.str x] ∧ SplY x xs rest ∧ xs.length ≤ 60 ∧ ∀ D refs H', Same H H' → H D = none → H' D = some (.lst refs) → RsSh H' refs xs → Q (.ref D) H'
theorem use_recovY {C : Addr} {x : Str} {xs : List (List Str)} {rest : List Str} {H : Hp} {Q : VK} {E : XK} (hx : SplY x xs rest) (l : xs.length ≤ 60) (q : ∀ D refs H', Same H H' → H D = none → H' D = some (.lst refs) → RsSh H' refs xs → Q (.ref D) H') : spRecovY C ([.str x] ++ []) H Q E := .inr ⟨x, xs, rest, rfl, hx, l, q⟩
theorem use_recovN {C : Addr} {v : V} {H : Hp} {Q : VK} {E : XK} (h : NoStr H v) (e : Err C "line" .non H E) : spRecovY C ([v] ++ []) H Q E := .inl ⟨v, rfl, h, e⟩
def fbW : List Str := [Str.ofString "frame", Str.ofString "1", Str.ofString "0", Str.ofString "0", Str.ofString "0", Str.ofString "1", Str.ofString "31", Str.ofString "-"]
inductive TlY (H : Hp) : List V → Option Bool → Prop where
  | nil : TlY H [] none
  | st {a t : Addr} (h : H a = some (.tup [.str (Str.ofString "state"), .ref t])) : TlY H [.ref a] (some false)
  | fb {a j : Addr} (h : H a = some (.tup [.str (Str.ofString "frame"), .int 1, .ref j, .int 0, .int 1, .int 31, .str (S [])])) (hj : H j = some (.tup [.int 0, .int 0])) : TlY H [.ref a] (some true)
theorem TlY.same {H H' : Hp} {tl : List V} {o : Option Bool} (s : Same H H') (h : TlY H tl o) : TlY H' tl o := by
  cases h with
  | nil => exact .nil
  | st h => exact .st (s _ _ h)
  | fb h hj => exact .fb (s _ _ h) (s _ _ hj)
theorem TlY.len {H : Hp} {tl : List V} {o : Option Bool} (h : TlY H tl o) : tl.length ≤ 1 := by
  cases h
  · exact Nat.zero_le _
  · exact Nat.le_refl _
  · exact Nat.le_refl _
theorem TlY.lki {H H' : Hp} {tl : List V} {o : Option Bool} (s : LKI H H') (h : TlY H tl o) : TlY H' tl o := by
  cases h with
  | nil => exact .nil
  | st h => exact .st (s _ _ h (fun _ z => nomatch z) (fun _ _ _ z => nomatch z))
  | fb h hj => exact .fb (s _ _ h (fun _ z => nomatch z) (fun _ _ _ z => nomatch z)) (s _ _ hj (fun _ z => nomatch z) (fun _ _ _ z => nomatch z))
theorem use_rdCn {k : Nat} {H : Hp} {Q : VK} {E : XK} (h4 : k ≤ 600) (h6 : rdC [] 0 k = none) (q : Q .non H) : spRdC ([.str (S []), .int 0, .int (k : Int)] ++ []) H Q E :=
  ⟨[], 0, k, rfl, fun c h => absurd h List.not_mem_nil, Nat.zero_le _, Nat.le_refl _, h4, Nat.zero_le _, fun _ => q, fun u' e' z => (by rw [h6] at z; cases z)⟩
def spRd0 (K : PySem.W.Frag) : Sp := fun vs H Q _ => ∃ (b : Addr) (T : Tb × Tb), vs = [.str (S []), .int 1, .int 1, .ref b] ∧ TbsV K H b T ∧ TbOk (10 ^ 59) T.1 ∧ TbOk (10 ^ 59) T.2 ∧ ∀ H', Same H H' → Q .non H'
theorem use_rd0 {K : PySem.W.Frag} {b : Addr} {T : Tb × Tb} {x : Str} {n m : Int} {H : Hp} {Q : VK} {E : XK} (ex : x = S []) (en : n = 1) (em : m = 1) (h : TbsV K H b T) (o1 : TbOk (10 ^ 59) T.1) (o2 : TbOk (10 ^ 59) T.2) (q : ∀ H', Same H H' → Q .non H') : spRd0 K ([.str x, .int n, .int m, .ref b] ++ []) H Q E := by
  subst ex en em
  exact ⟨b, T, rfl, h, o1, o2, q⟩
def spRf0 (K : PySem.W.Frag) : Sp := fun vs H Q _ => ∃ (a j b : Addr) (T : Tb × Tb), vs = [.ref a, .ref b] ∧ H a = some (.tup [.str (Str.ofString "frame"), .int 1, .ref j, .int 0, .int 1, .int 31, .str (S [])]) ∧ TbsV K H b T ∧ TbOk (10 ^ 59) T.1 ∧ TbOk (10 ^ 59) T.2 ∧ ∀ H', Same H H' → Q .non H'
theorem use_rf0 {K : PySem.W.Frag} {a j b : Addr} {T : Tb × Tb} {H : Hp} {Q : VK} {E : XK} (h : H a = some (.tup [.str (Str.ofString "frame"), .int 1, .ref j, .int 0, .int 1, .int 31, .str (S [])])) (hb : TbsV K H b T) (o1 : TbOk (10 ^ 59) T.1) (o2 : TbOk (10 ^ 59) T.2) (q : ∀ H', Same H H' → Q .non H') : spRf0 K ([.ref a, .ref b] ++ []) H Q E := ⟨a, j, b, T, rfl, h, hb, o1, o2, q⟩
theorem Vd.endok : ∀ {rs : List Rc} {T : Tb × Tb} {l : Nat} {T2 : Tb × Tb} {l2 : Nat}, Vd T l rs T2 l2 → TbOk (10 ^ 59) T.1 ∧ TbOk (10 ^ 59) T.2 → TbOk (10 ^ 59) T2.1 ∧ TbOk (10 ^ 59) T2.2
  | [], _, _, _, _, ⟨e, _⟩, h => e ▸ h
  | .st T' :: rs, _, _, _, _, ⟨h, q⟩, _ => Vd.endok q ⟨h.1.up (by decide), h.2.up (by decide)⟩
  | .fr d ns T' :: rs, T, _, _, _, ⟨_, hd, _, hl, hn, ok, q⟩, _ => by
    refine Vd.endok q ?_
    have h64 : ns.length ≤ 64 := by rw [hl]; exact hd.2.1
    obtain ⟨k1, k2⟩ := wst_ok (first := cc d.1 d.2.2.2.1) (fun z hz => Nat.lt_of_le_of_lt (hn z hz) (by decide)) (ok.1.up (by decide)) (ok.2.up (by decide)) ns.length h64
    have hb : (10 ^ 58 + (ns.length : Int) * 10 ^ 56) ≤ 10 ^ 59 := by omega
    exact ⟨k1.up hb, k2.up hb⟩
def spFrsY (K : PySem.W.Frag) (C : Addr) : Sp := fun vs H Q E => ∃ a refs tl o rs T w, vs = [.ref a] ∧ H a = some (.lst (refs ++ tl)) ∧ (refs ++ tl).length ≤ 400 ∧ RcsAt K H refs rs ∧ TlY H tl o ∧ Vd T0 0 rs T w ∧ (o ≠ some true → w = 0 → ∀ F fms H', H F = none → H' F = some (.lst fms) → Same H H' → Q (.ref F) H') ∧ (o = some true → Err C "index" (.int (rs.length : Nat)) H E) ∧ (o ≠ some true → w ≠ 0 → ∀ f, (frR 0 0 (0, 0) rs).getLast? = some f → Err C "index" (.int (f.1 : Nat)) H E)
theorem use_frsY {K : PySem.W.Frag} {C a : Addr} {refs tl : List V} {o : Option Bool} {rs : List Rc} {T : Tb × Tb} {w : Nat} {H : Hp} {Q : VK} {E : XK} (h : H a = some (.lst (refs ++ tl))) (hl : (refs ++ tl).length ≤ 400) (hR : RcsAt K H refs rs) (ht : TlY H tl o) (hV : Vd T0 0 rs T w) (q : o ≠ some true → w = 0 → ∀ F fms H', H F = none → H' F = some (.lst fms) → Same H H' → Q (.ref F) H') (q1 : o = some true → Err C "index" (.int (rs.length : Nat)) H E) (q2 : o ≠ some true → w ≠ 0 → ∀ f, (frR 0 0 (0, 0) rs).getLast? = some f → Err C "index" (.int (f.1 : Nat)) H E) : spFrsY K C ([.ref a] ++ []) H Q E := ⟨a, refs, tl, o, rs, T, w, rfl, h, hl, hR, ht, hV, q, q1, q2⟩
/-- a record of words, as any value -/
theorem RecSh.recR {H : Hp} {v : V} {ws : List Str} (h : RecSh H v ws) (ok : WdOk ws) : RecR H v true := by
  have hb := ok.re
  obtain ⟨a, e, ⟨t, t1, t2, h1, h0, h2, h3, h4, h5⟩ | ⟨j, h1, h0, h2, h3⟩⟩ := h
  · subst e
    unfold recB at hb
    rw [if_pos ⟨h0, h1⟩] at hb
    have z := RecR.st h2 (TSR.tup2 h3 (TR.tup2 h4 (numV_ty _) (numV_ty _)) (TR.tup2 h5 (numV_ty _) (numV_ty _)))
    have hb' : (tt (nV ws 1) (nV ws 2) && tt (nV ws 3) (nV ws 4)) = true := hb
    rw [decide_eq_true rfl, Bool.true_and, hb'] at z
    exact z
  · subst e
    unfold recB at hb
    have hn : ¬ (ws.head? = some (Str.ofString "state") ∧ ws.length = 5) := fun z => by omega
    rw [if_neg hn] at hb
    split at hb
    · have hl : (bitW (ws.getD 7 (S []))).length ≤ 16000000 := by
        unfold bitW
        split
        · decide +kernel
        · have h7 : ws.getD 7 (S []) ∈ ws := by
            rw [List.getD_eq_getElem?_getD, List.getElem?_eq_getElem (by omega)]
            exact List.getElem_mem _
          exact ok.wlen _ h7
      have z := RecR.fr h2 rfl (numV_ty _) (JR.tup2 h3 (numV_ty _) (numV_ty _)) (numV_ty _) (numV_ty _) (numV_ty _) (BitR.str hl)
      have hb' : frB (.str (Str.ofString "frame")) (nV ws 1) (jt (nV ws 2) (nV ws 3)) (nV ws 4) (nV ws 5) (nV ws 6) (bitsOf (bitW (ws.getD 7 (S [])))) = true := hb
      rw [hb'] at z
      exact z
    · cases hb
def spCkY : Sp := fun vs H Q _ => ∃ a refs xs, vs = [.ref a] ∧ H a = some (.lst refs) ∧ RsSh H refs xs ∧ (∀ ws ∈ xs, WdOk ws) ∧ ∀ H', Same H H' → Q .non H'
theorem use_ckY {a : Addr} {refs : List V} {xs : List (List Str)} {H : Hp} {Q : VK} {E : XK} (h : H a = some (.lst refs)) (hR : RsSh H refs xs) (ok : ∀ ws ∈ xs, WdOk ws) (q : ∀ H', Same H H' → Q .non H') : spCkY ([.ref a] ++ []) H Q E := ⟨a, refs, xs, rfl, h, hR, ok, q⟩
def spInitY (K : PySem.W.Frag) (C CI : Addr) : Sp := fun vs H Q E => ∃ (x a dx : Addr) (refs tl : List V) (o : Option Bool) (xs : List (List Str)) (rs : List Rc) (Te : Tb × Tb) (w : Nat), vs = [.ref x, .ref a] ∧ H x = some (.ins C dx []) ∧ H a = some (.lst (refs ++ tl)) ∧ (refs ++ tl).length ≤ 400 ∧ RsSh H (refs ++ tl) xs ∧ (∀ ws ∈ xs, WdOk ws) ∧ RcsAt K H refs rs ∧ TlY H tl o ∧ Vd T0 0 rs Te w ∧ (o ≠ some true → w = 0 → ∀ H', Kp x H H' → Q .non H') ∧ (o = some true → ErrP CI "index" (.int (rs.length : Nat)) x H E) ∧ (o ≠ some true → w ≠ 0 → ∀ f, (frR 0 0 (0, 0) rs).getLast? = some f → ErrP CI "index" (.int (f.1 : Nat)) x H E)
theorem use_initY {K : PySem.W.Frag} {C CI x a dx : Addr} {refs tl : List V} {o : Option Bool} {xs : List (List Str)} {rs : List Rc} {Te : Tb × Tb} {w : Nat} {H : Hp} {Q : VK} {E : XK} (hx : H x = some (.ins C dx [])) (h : H a = some (.lst (refs ++ tl))) (hl : (refs ++ tl).length ≤ 400) (hS : RsSh H (refs ++ tl) xs) (ok : ∀ ws ∈ xs, WdOk ws) (hR : RcsAt K H refs rs) (ht : TlY H tl o) (hV : Vd T0 0 rs Te w) (q : o ≠ some true → w = 0 → ∀ H', Kp x H H' → Q .non H') (q1 : o = some true → ErrP CI "index" (.int (rs.length : Nat)) x H E) (q2 : o ≠ some true → w ≠ 0 → ∀ f, (frR 0 0 (0, 0) rs).getLast? = some f → ErrP CI "index" (.int (f.1 : Nat)) x H E) : spInitY K C CI (.ref x :: ([.ref a] ++ [])) H Q E := ⟨x, a, dx, refs, tl, o, xs, rs, Te, w, rfl, hx, h, hl, hS, ok, hR, ht, hV, q, q1, q2⟩
theorem All2.splitN {α β : Type} {R : α → β → Prop} : ∀ {bs cs : List β} {as : List α}, All2 R as (bs ++ cs) → ∃ a1 a2, as = a1 ++ a2 ∧ All2 R a1 bs ∧ All2 R a2 cs
  | [], cs, as, h => ⟨[], as, rfl, .nil, h⟩
  | b :: bs, cs, as, h => by
    cases h with
    | @cons a _ as' _ h1 h2 =>
      obtain ⟨a1, a2, e, k1, k2⟩ := All2.splitN h2
      exact ⟨a :: a1, a2, by rw [e]; rfl, .cons h1 k1, k2⟩
theorem RsSh.rcs {K : PySem.W.Frag} {H : Hp} : ∀ {rs : List Rc} {refs : List V}, (∀ r ∈ rs, RcOk r) → RsSh H refs (rs.map wordsR) → RcsAt K H refs rs
  | [], refs, _, h => by cases h; exact .nil
  | r :: rs, refs, ok, h => by
    cases h with
    | cons h1 h2 => exact .cons (RecSh.rc (ok r List.mem_cons_self) h1) (RsSh.rcs (fun x hx => ok x (List.mem_cons_of_mem _ hx)) h2)
theorem fb_nV : nV fbW 1 = .int 1 ∧ nV fbW 2 = .int 0 ∧ nV fbW 3 = .int 0 ∧ nV fbW 4 = .int 0 ∧ nV fbW 5 = .int 1 ∧ nV fbW 6 = .int 31 ∧ bitW (fbW.getD 7 (S [])) = S [] := by
  refine ⟨?_, ?_, ?_, ?_, ?_, ?_, ?_⟩ <;> decide +kernel
theorem RecSh.fb {H : Hp} {v : V} (h : RecSh H v fbW) : TlY H [v] (some true) := by
  obtain ⟨a, e, ⟨t, t1, t2, h1, h0, h2, h3, h4, h5⟩ | ⟨j, h1, h0, h2, h3⟩⟩ := h
  · exact absurd h1 (by decide)
  · subst e
    obtain ⟨e1, e2, e3, e4, e5, e6, e7⟩ := fb_nV
    rw [e1, e4, e5, e6, e7] at h2
    rw [e2, e3] at h3
    exact .fb h2 h3
theorem RecSh.st {H : Hp} {v : V} {ws : List Str} (hw : ws.head? = some (Str.ofString "state")) (h : RecSh H v ws) : TlY H [v] (some false) := by
  obtain ⟨a, e, ⟨t, t1, t2, h1, h0, h2, h3, h4, h5⟩ | ⟨j, h1, h0, h2, h3⟩⟩ := h
  · subst e
    exact .st h2
  · rw [hw] at h0
    exact absurd (Option.some.inj h0) (fun z => st_ne_frS z.symm)
inductive PO where
  | line (v : V)
  | recd (i : Nat)
  | ok
/-- how parse_stream ends -/
inductive PaY (H : Hp) : V → PO → Prop where
  | odd {v : V} (h : NoStr H v) : PaY H v (.line .non)
  | bad {x : Str} {xs : List (List Str)} {rest : List Str} (h : SplY x xs rest) (l : xs.length ≤ 60) (n : rest ≠ []) : PaY H (.str x) (.line (.int ((xs.length + 1 : Nat) : Int)))
  | fb {x : Str} {rs : List Rc} {T : Tb × Tb} {w : Nat} (h : SplY x (rs.map wordsR ++ [fbW]) []) (l : rs.length ≤ 50) (hV : Vd T0 0 rs T w) : PaY H (.str x) (.recd rs.length)
  | st {x : Str} {rs : List Rc} {T : Tb × Tb} {ws : List Str} (h : SplY x (rs.map wordsR ++ [ws]) []) (l : rs.length ≤ 50) (hV : Vd T0 0 rs T 0) (hw : ws.head? = some (Str.ofString "state")) : PaY H (.str x) .ok
  | last {x : Str} {rs : List Rc} {T : Tb × Tb} {w : Nat} {f : Fm} (h : SplY x (rs.map wordsR) []) (l : rs.length ≤ 50) (hV : Vd T0 0 rs T w) (hw : w ≠ 0) (hf : (frR 0 0 (0, 0) rs).getLast? = some f) : PaY H (.str x) (.recd f.1)
def spParseY (C CP CI : Addr) : Sp := fun vs H Q E => ∃ (v : V) (o : PO), vs = [v] ∧ PaY H v o ∧ match o with
  | .line u => Err CP "line" u H E
  | .recd i => Err CI "index" (.int (i : Nat)) H E
  | .ok => ∀ x H', H x = none → Same H H' → Q (.ref x) H'
/-- what the law tells of it -/
def outV (H : Hp) (v : V) : PO → Prop
  | .line u => ∃ D, v = .ref D ∧ H D = some (.lst [.str (Str.ofString "line"), u, .bl true])
  | .recd i => ∃ D, v = .ref D ∧ H D = some (.lst [.str (Str.ofString "record"), .int (i : Nat), .bl true])
  | .ok => v = .non
def spTold86 : Sp := fun vs H Q _ => ∃ (v : V) (o : PO), vs = [v] ∧ PaY H v o ∧ ∀ u H', Same H H' → outV H' u o → Q u H'
theorem use_told86 {v : V} {o : PO} {H : Hp} {Q : VK} {E : XK} (h : PaY H v o) (q : ∀ u H', Same H H' → outV H' u o → Q u H') : spTold86 ([v] ++ []) H Q E := ⟨v, o, rfl, h, q⟩
def spRecoL : Sp := fun vs H Q _ => (∃ v, vs = [v] ∧ NoStr H v ∧ ∀ D H', Same H H' → H' D = some (.lst [.str (Str.ofString "line"), .non]) → Q (.ref D) H') ∨ ∃ (x : Str) (xs : List (List Str)) (rest : List Str), vs = [.str x] ∧ SplY x xs rest ∧ xs.length ≤ 60 ∧ ∀ D refs H', Same H H' → H D = none → H' D = some (.lst refs) → RsSh H' refs xs → Q (.ref D) H'
theorem use_recoL {x : Str} {xs : List (List Str)} {rest : List Str} {H : Hp} {Q : VK} {E : XK} (hx : SplY x xs rest) (l : xs.length ≤ 60) (q : ∀ D refs H', Same H H' → H D = none → H' D = some (.lst refs) → RsSh H' refs xs → Q (.ref D) H') : spRecoL ([.str x] ++ []) H Q E := .inr ⟨x, xs, rest, rfl, hx, l, q⟩
theorem use_recoN {v : V} {H : Hp} {Q : VK} {E : XK} (h : NoStr H v) (q : ∀ D H', Same H H' → H' D = some (.lst [.str (Str.ofString "line"), .non]) → Q (.ref D) H') : spRecoL ([v] ++ []) H Q E := .inl ⟨v, rfl, h, q⟩
end Z
namespace Z
open PySem PySem.Spec PyProof.Rows L2
open SX (S S_len S_cat S_inj)
theorem joinL_le (sep : List Nat) : ∀ (ls : List (List Nat)) (l : List Nat), l ∈ ls → l.length ≤ (TL.joinL sep ls).length
  | [], _, h => absurd h List.not_mem_nil
  | [p], l, h => by rw [List.mem_singleton.mp h]; exact Nat.le_refl _
  | p :: q :: r, l, h => by
    show _ ≤ (p ++ (sep ++ TL.joinL sep (q :: r))).length
    rw [List.length_append, List.length_append]
    rcases List.mem_cons.mp h with rfl | h
    · omega
    · have := joinL_le sep (q :: r) l h
      omega
theorem join_tl (ls : List Str) : TL.tl (Txt.join (Str.ofString "\n") ls) = TL.joinL [10] (ls.map TL.tl) := by
  rw [TL.join_eq, TL.tl_join]
  rfl
theorem join_pos {ls : List Str} {w : Str} (h : w ∈ ls) (hw : 0 < w.length) : 0 < (Txt.join (Str.ofString "\n") ls).length := by
  have h1 := joinL_le [10] (ls.map TL.tl) (TL.tl w) (List.mem_map_of_mem h)
  rw [← join_tl] at h1
  have e : (Txt.join (Str.ofString "\n") ls).length = (TL.tl (Txt.join (Str.ofString "\n") ls)).length := TL.len_tl _
  have e2 : w.length = (TL.tl w).length := TL.len_tl _
  omega
theorem one_nl : (Str.ofString "\n").length = 1 := by decide +kernel
theorem splY_join {xs : List (List Str)} {rest : List Str} (ok : ∀ ws ∈ xs, WdOk ws) (hf : ∀ w ∈ linesW 1 xs ++ rest, 10 ∉ w.cps.toList) (hl : ((linesW 1 xs ++ rest).map (·.length)).sum + (linesW 1 xs ++ rest).length ≤ 10000000) (hp : ∃ w ∈ linesW 1 xs ++ rest, 0 < w.length) (hb : rest = [] ∨ ∃ bad t, rest = bad :: t ∧ BadL (chkW 1 xs) bad) : SplY (Txt.join (Str.ofString "\n") (linesW 1 xs ++ rest)) xs rest := by
  obtain ⟨w, hw, hw0⟩ := hp
  have hpos := join_pos hw hw0
  have h1 := txt_join_le (Str.ofString "\n") (linesW 1 xs ++ rest)
  rw [one_nl, Nat.mul_one] at h1
  refine ⟨ok, Nat.le_trans h1 hl, fun z => absurd z (by omega), fun _ => ?_, hb⟩
  exact TL.split_join (y := Str.ofString "\n") (s := 10) (S := []) rfl (by decide +kernel) (List.ne_nil_of_mem hw) hf
theorem lineX_free {b : Str} {c : Int} (hb : 10 ∉ b.cps.toList) (h : 0 ≤ c) : 10 ∉ (lineS b c).cps.toList := fun hm => by
  obtain ⟨n, rfl, e⟩ := line_S b h
  rw [e] at hm
  have hm : 10 ∈ b.cps.toList ++ [32, 35] ++ TL.numL n := hm
  rcases List.mem_append.mp hm with hm | hm
  · rcases List.mem_append.mp hm with hm | hm
    · exact hb hm
    · simp at hm
  · have := TL.numL_digits n 10 hm
    omega
theorem lineX_pos {b : Str} {c : Int} (h : 0 ≤ c) : 0 < (lineS b c).length := by
  unfold lineS
  rw [Str.length_append, Str.length_append, show (Str.ofString " #").length = 2 by decide +kernel]
  omega
theorem lineX_len {b : Str} {c : Int} (h0 : 0 ≤ c) (h1 : c < 1000003) : (lineS b c).length ≤ b.length + 2000 := by
  have h3 : (((toString c : String) : Str)).length ≤ 1921 := int_len (by omega)
  unfold lineS
  rw [Str.length_append, Str.length_append, show (Str.ofString " #").length = 2 by decide +kernel]
  omega
theorem linesW_all {xs : List (List Str)} (ok : ∀ ws ∈ xs, WdOk ws) : ∀ (c : Int), 0 ≤ c → c < 1000003 → ∀ w ∈ linesW c xs, 10 ∉ w.cps.toList ∧ w.length ≤ 95000 ∧ 0 < w.length := by
  induction xs with
  | nil => exact fun c _ _ w h => absurd h List.not_mem_nil
  | cons ws xs ih =>
    intro c h0 h1 w hw
    have hc := chkL_le (c := c) ⟨h0, h1⟩ (bodW ws).cps.toList
    have hok := ok ws List.mem_cons_self
    rcases List.mem_cons.mp hw with rfl | hw
    · exact ⟨lineX_free (fun m => (hok.free 10 m).1 rfl) hc.1, lineW_len hok hc.1 hc.2, lineX_pos hc.1⟩
    · exact ih (fun v hv => ok v (List.mem_cons_of_mem _ hv)) _ hc.1 hc.2 w hw
theorem linesW_sum {xs : List (List Str)} (ok : ∀ ws ∈ xs, WdOk ws) (hl : xs.length ≤ 60) : ((linesW 1 xs).map (·.length)).sum ≤ 5700000 := by
  have h1 := sum_le (l := (linesW 1 xs).map (·.length)) (b := 95000) fun x hx => by
    obtain ⟨w, hw, rfl⟩ := List.mem_map.mp hx
    exact (linesW_all ok 1 (by decide) (by decide) w hw).2.1
  rw [List.length_map, linesW_length] at h1
  have h2 : xs.length * 95000 ≤ 60 * 95000 := Nat.mul_le_mul_right _ hl
  omega
/-- the whole text of lines that are good -/
theorem splY_good {xs : List (List Str)} (ok : ∀ ws ∈ xs, WdOk ws) (hl : xs.length ≤ 60) (hne : xs ≠ []) : SplY (Txt.join (Str.ofString "\n") (linesW 1 xs)) xs [] := by
  have z := splY_join (xs := xs) (rest := []) ok (fun w hw => by
    rw [List.append_nil] at hw
    exact (linesW_all ok 1 (by decide) (by decide) w hw).1) (by
    rw [List.append_nil, linesW_length]
    have := linesW_sum ok hl
    omega) (by
    rw [List.append_nil]
    cases xs with
    | nil => exact absurd rfl hne
    | cons ws xs => exact ⟨_, List.mem_cons_self, (linesW_all ok 1 (by decide) (by decide) _ List.mem_cons_self).2.2⟩) (.inl rfl)
  rw [List.append_nil] at z
  exact z
/-- good lines, then one that is bad, then others -/
theorem splY_bad {xs : List (List Str)} {bad : Str} {t : List Str} (ok : ∀ ws ∈ xs, WdOk ws) (hl : xs.length ≤ 60) (hb : BadL (chkW 1 xs) bad) (h10 : 10 ∉ bad.cps.toList) (hp : 0 < bad.length) (hbl : bad.length ≤ 1000000) (ht : ∀ w ∈ t, 10 ∉ w.cps.toList ∧ w.length ≤ 1000) (htl : t.length ≤ 10) : SplY (Txt.join (Str.ofString "\n") (linesW 1 xs ++ bad :: t)) xs (bad :: t) := by
  refine splY_join ok (fun w hw => ?_) ?_ ⟨bad, List.mem_append_right _ List.mem_cons_self, hp⟩ (.inr ⟨bad, t, rfl, hb⟩)
  · rcases List.mem_append.mp hw with hw | hw
    · exact (linesW_all ok 1 (by decide) (by decide) w hw).1
    · rcases List.mem_cons.mp hw with rfl | hw
      · exact h10
      · exact (ht w hw).1
  · have h1 := linesW_sum ok hl
    have h2 := sum_le (l := t.map (·.length)) (b := 1000) fun x hx => by
      obtain ⟨w, hw, rfl⟩ := List.mem_map.mp hx
      exact (ht w hw).2
    rw [List.length_map] at h2
    have h3 : t.length * 1000 ≤ 10 * 1000 := Nat.mul_le_mul_right _ htl
    rw [List.map_append, List.sum_append, List.length_append, linesW_length, List.map_cons, List.sum_cons, List.length_cons]
    omega
theorem bad_recX {c : Int} {b : Str} (h0 : 0 ≤ chkS c b) (h1 : chkS c b < 1000003) (hr : recB (wordsL b) = false) (hl : b.length ≤ 1000000) : BadL c (lineS b (chkS c b)) := by
  have h2 := lineX_len (b := b) h0 h1
  refine ⟨by omega, .inl ?_⟩
  obtain ⟨n, e, el⟩ := line_S b h0
  rw [el, rpart_at (noHash_free (num_free n))]
  exact hr
def badS : List Str := [Str.ofString "state 2 1 2", Str.ofString "state 2 1 2 1 1", Str.ofString "state 02 1 2 1", Str.ofString "state 2 0 2 1", Str.ofString "state 2 1 2 16", Str.ofString "state", Str.ofString "", Str.ofString "State 2 1 2 1", Str.ofString "state  2 1 2 1", Str.ofString " state 2 1 2 1", Str.ofString "state 2 1 2 1 ", Str.ofString "state -2 1 2 1", Str.ofString "state 2 1 2 x", Str.ofString "frame", Str.ofString "frame 1 0 0 0 1 31", Str.ofString "frame 1 0 0 0 1 31 00 0", Str.ofString "frame 0 0 0 0 1 31 00", Str.ofString "frame 65 0 0 0 1 31 00", Str.ofString "frame 1 9 0 0 1 31 00", Str.ofString "frame 1 0 1 0 1 31 00", Str.ofString "frame 1 1 4 0 1 31 00", Str.ofString "frame 1 0 0 6 1 31 00", Str.ofString "frame 1 0 0 0 0 31 00", Str.ofString "frame 1 0 0 0 65 31 00", Str.ofString "frame 1 0 0 0 1 9973 00", Str.ofString "frame 1 0 0 0 1 31 02", Str.ofString "frame 1 0 0 0 1 31 ", Str.ofString "frame 1 0 0 0 1 31  00", Str.ofString "frame 01 0 0 0 1 31 00", Str.ofString "frame 1 0 0 0 1 31 0-", Str.ofString "frames 1 0 0 0 1 31 00", Str.ofString "frame 1 0 0 0 1 31 --", Str.ofString "frame one 0 0 0 1 31 00", Str.ofString "frame - 0 0 0 1 31 00"]
theorem badS_ok : ∀ b ∈ badS, recB (wordsL b) = false ∧ 10 ∉ b.cps.toList ∧ b.length ≤ 100 := by
  have key : ∀ b ∈ badS, recB ((TL.spl [32] 0 [] b.cps.toList).map S) = false ∧ (b.cps.toList.all fun c => decide (c ≠ 10)) = true ∧ b.length ≤ 100 := by decide +kernel
  intro b hb
  obtain ⟨h1, h2, h3⟩ := key b hb
  refine ⟨?_, fun m => of_decide_eq_true (List.all_eq_true.mp h2 10 m) rfl, h3⟩
  rw [str_S b, words_S]
  exact h1
section
variable {r : Rc} {c : Int}
theorem mark_bad (T : Tb × Tb) (ok : RcOk (.st T)) (hc : 0 ≤ c ∧ c < 1000003) (t : Nat) (ht : t ≤ 9) {n : Nat} (en : (n : Int) = chkS c (bodyR (.st T))) : ∀ m ∈ [(bodyR (.st T)).cps.toList ++ [32, 35] ++ TL.numL (n + 1 + t), (bodyR (.st T)).cps.toList ++ [32, 35] ++ (48 :: TL.numL n), (bodyR (.st T)).cps.toList, (bodyR (.st T)).cps.toList ++ [32, 35] ++ [], (bodyR (.st T)).cps.toList ++ [32, 35] ++ (32 :: TL.numL n), ((bodyR (.st T)).cps.toList ++ [32]) ++ [32, 35] ++ TL.numL n, (bodyR (.st T)).cps.toList ++ [32, 35] ++ (TL.numL n ++ [32]), (bodyR (.st T)).cps.toList ++ ([35] ++ TL.numL n), (bodyR (.st T)).cps.toList ++ [32, 35] ++ (45 :: TL.numL n)], BadL c (S m) ∧ 10 ∉ m ∧ m.length ≤ 1000000 ∧ 0 < m.length := by
  have hn : n < 1000003 := by
    have := chkL_le hc (bodyR (.st T)).cps.toList
    have h2 : chkS c (bodyR (.st T)) < 1000003 := this.2
    omega
  have bl : (bodyR (.st T)).cps.toList.length ≤ 80000 := body_len ok
  have nl := num_len (n := n) (Nat.lt_trans hn (by decide))
  have nl2 := num_len (n := n + 1 + t) (Nat.lt_of_lt_of_le (show n + 1 + t < 2000000 by omega) (by decide))
  have hf := body_free ok
  have hend := body_end ok
  have hw : (wordsL (S (bodyR (.st T)).cps.toList)).length = 5 := by
    show (wordsL (bodyR (.st T))).length = 5
    rw [show wordsL (bodyR (.st T)) = wordsR (.st T) from split_body ok]
    rfl
  rw [words_count] at hw
  have e : (n : Int) = chkS c (S (bodyR (.st T)).cps.toList) := en
  have hbp : 0 < (bodyR (.st T)).cps.toList.length := by
    have := List.count_le_length (a := 32) (l := (bodyR (.st T)).cps.toList)
    omega
  generalize (bodyR (.st T)).cps.toList = b at *
  have nd : ∀ k, 10 ∉ TL.numL k := fun k m => by have := TL.numL_digits k 10 m; omega
  have b10 : 10 ∉ b := fun m => (hf 10 m).1 rfl
  have b35 : 35 ∉ b := fun m => (hf 35 m).2 rfl
  have fr : ∀ k : List Nat, 10 ∉ k → 10 ∉ b ++ [32, 35] ++ k := fun k hk m => by
    rcases List.mem_append.mp m with m | m
    · rcases List.mem_append.mp m with m | m
      · exact b10 m
      · simp at m
    · exact hk m
  have ln : ∀ k : List Nat, (b ++ [32, 35] ++ k).length = b.length + 2 + k.length := fun k => by
    rw [List.length_append, List.length_append]
    rfl
  intro m hm
  simp only [List.mem_cons, List.not_mem_nil, or_false] at hm
  rcases hm with rfl | rfl | rfl | rfl | rfl | rfl | rfl | rfl | rfl
  · exact ⟨bad_num e (noHash_free (num_free _)) (fun z => by have := numL_inj z; omega) (by omega), fr _ (nd _), by rw [ln]; omega, by rw [ln]; omega⟩
  · exact ⟨bad_num e (noHash_free fun m => by rcases List.mem_cons.mp m with m | m; exact absurd m (by decide); exact num_free n m) (fun z => by have := congrArg List.length z; rw [List.length_cons] at this; omega) (by rw [List.length_cons]; omega), fr _ (fun m => by rcases List.mem_cons.mp m with m | m; exact absurd m (by decide); exact nd n m), by rw [ln, List.length_cons]; omega, by rw [ln]; omega⟩
  · exact ⟨bad_none (noHash_free b35) (by omega), b10, by omega, hbp⟩
  · exact ⟨bad_num e (noHash_free List.not_mem_nil) (fun z => TL.numL_ne n z.symm) (by rw [List.length_nil]; omega), fr _ List.not_mem_nil, by rw [ln, List.length_nil]; omega, by rw [ln]; omega⟩
  · exact ⟨bad_num e (noHash_free fun m => by rcases List.mem_cons.mp m with m | m; exact absurd m (by decide); exact num_free n m) (fun z => by have := congrArg List.length z; rw [List.length_cons] at this; omega) (by rw [List.length_cons]; omega), fr _ (fun m => by rcases List.mem_cons.mp m with m | m; exact absurd m (by decide); exact nd n m), by rw [ln, List.length_cons]; omega, by rw [ln]; omega⟩
  · refine ⟨⟨by rw [S_len, List.length_append, List.length_append, List.length_append]; show b.length + 1 + 2 + _ ≤ _; omega, .inl ?_⟩, fun m => ?_, by rw [List.length_append, List.length_append, List.length_append]; show b.length + 1 + 2 + _ ≤ _; omega, by rw [List.length_append, List.length_append, List.length_append]; show 0 < b.length + 1 + 2 + _; omega⟩
    · rw [rpart_at (noHash_free (num_free n))]
      have k3 := words_count (b ++ [32])
      rw [List.count_append, show [32].count 32 = 1 from rfl] at k3
      exact recB_len (by show (wordsL (S (b ++ [32]))).length ≠ 5; omega) (by show (wordsL (S (b ++ [32]))).length ≠ 8; omega)
    · rcases List.mem_append.mp m with m | m
      · rcases List.mem_append.mp m with m | m
        · rcases List.mem_append.mp m with m | m
          · exact b10 m
          · simp at m
        · simp at m
      · exact nd n m
  · refine ⟨bad_num e (noHash_free fun m => ?_) (fun z => by have := congrArg List.length z; rw [List.length_append] at this; have h1 : (TL.numL n).length + 1 = (TL.numL n).length := this; omega) (by rw [List.length_append]; show _ + (_ + 1) ≤ _; omega), fr _ (fun m => ?_), by rw [ln, List.length_append]; show _ + (_ + 1) ≤ _; omega, by rw [ln]; omega⟩
    · rcases List.mem_append.mp m with m | m
      · exact num_free n m
      · simp at m
    · rcases List.mem_append.mp m with m | m
      · exact nd n m
      · simp at m
  · have hl : (b ++ ([35] ++ TL.numL n)).length = b.length + (1 + (TL.numL n).length) := by
      rw [List.length_append, List.length_append]
      rfl
    refine ⟨bad_none (fun i ⟨a1, a2⟩ => ?_) (by omega), fun m => ?_, by omega, by omega⟩
    · rcases Nat.lt_trichotomy i b.length with z | z | z
      · rw [List.getElem?_append_left z] at a1
        by_cases y : i + 1 = b.length
        · exact hend i y a1
        · rw [List.getElem?_append_left (by omega)] at a2
          exact b35 (List.mem_of_getElem? a2)
      · subst z
        rw [List.getElem?_append_right (Nat.le_refl _), Nat.sub_self] at a1
        cases a1
      · rw [List.getElem?_append_right (by omega)] at a2
        obtain ⟨k, hk⟩ : ∃ k, i + 1 - b.length = k + 1 := ⟨i + 1 - b.length - 1, by omega⟩
        rw [hk] at a2
        exact num_free n (List.mem_of_getElem? (i := k) a2)
    · rcases List.mem_append.mp m with m | m
      · exact b10 m
      · rcases List.mem_append.mp m with m | m
        · simp at m
        · exact nd n m
  · exact ⟨bad_num e (noHash_free fun m => by rcases List.mem_cons.mp m with m | m; exact absurd m (by decide); exact num_free n m) (fun z => by have := congrArg List.length z; rw [List.length_cons] at this; omega) (by rw [List.length_cons]; omega), fr _ (fun m => by rcases List.mem_cons.mp m with m | m; exact absurd m (by decide); exact nd n m), by rw [ln, List.length_cons]; omega, by rw [ln]; omega⟩
end
end Z
namespace Z
open PySem PySem.Spec PyProof.Rows L2
open SX (S S_len S_cat S_inj)
theorem splY_snoc {rs : List Rc} {ws : List Str} (ok : ∀ r ∈ rs, RcOk r) (hl : rs.length ≤ 50) (hw : WdOk ws) : SplY (Txt.join (Str.ofString "\n") (linesR 1 rs ++ [lineS (bodW ws) (chkS (chkR 1 rs) (bodW ws))])) (rs.map wordsR ++ [ws]) [] := by
  have z := splY_good (xs := rs.map wordsR ++ [ws]) (fun v hv => by
    rcases List.mem_append.mp hv with hv | hv
    · obtain ⟨r, hr, rfl⟩ := List.mem_map.mp hv
      exact WdOk.good (ok r hr)
    · rw [List.mem_singleton.mp hv]
      exact hw) (by rw [List.length_append, List.length_map]; show rs.length + 1 ≤ 60; omega) (by simp)
  rw [linesW_app, linesW_R, chkW_R] at z
  exact z
theorem okW {rs : List Rc} (ok : ∀ r ∈ rs, RcOk r) : ∀ ws ∈ rs.map wordsR, WdOk ws := fun v hv => by
  obtain ⟨r, hr, rfl⟩ := List.mem_map.mp hv
  exact WdOk.good (ok r hr)
theorem splY_rs {rs : List Rc} (ok : ∀ r ∈ rs, RcOk r) (hl : rs.length ≤ 50) (hne : rs ≠ []) : SplY (Txt.join (Str.ofString "\n") (linesR 1 rs)) (rs.map wordsR) [] := by
  have z := splY_good (okW ok) (by rw [List.length_map]; omega) (fun z => hne (List.map_eq_nil_iff.mp z))
  rw [linesW_R] at z
  exact z
theorem splY_badR {rs : List Rc} {bad : Str} {t : List Str} (ok : ∀ r ∈ rs, RcOk r) (hl : rs.length ≤ 50) (hb : BadL (chkR 1 rs) bad) (h10 : 10 ∉ bad.cps.toList) (hp : 0 < bad.length) (hbl : bad.length ≤ 1000000) (ht : ∀ w ∈ t, 10 ∉ w.cps.toList ∧ w.length ≤ 1000) (htl : t.length ≤ 10) : SplY (Txt.join (Str.ofString "\n") (linesR 1 rs ++ bad :: t)) (rs.map wordsR) (bad :: t) := by
  have z := splY_bad (t := t) (okW ok) (by rw [List.length_map]; omega) (by rw [chkW_R]; exact hb) h10 hp hbl ht htl
  rw [linesW_R] at z
  exact z
theorem fbW_ok : WdOk fbW where
  re := by decide +kernel
  ne := List.cons_ne_nil _ _
  fr := by
    have key : (fbW.all fun w => w.cps.toList.all fun c => decide (c ≠ 32 ∧ c ≠ 10 ∧ c ≠ 35)) = true := by decide +kernel
    exact fun w hw c hc => of_decide_eq_true (List.all_eq_true.mp (List.all_eq_true.mp key w hw) c hc)
  ln := by decide +kernel
theorem fbW_body : bodW fbW = Str.ofString "frame 1 0 0 0 1 31 -" := by decide +kernel
/-- a state line of which the first number is l -/
def stW (l : List Nat) (z : Str) : List Str := [Str.ofString "state", S l, Str.ofString "1", Str.ofString "2", z]
theorem stW_body (l z : List Nat) : bodW (stW l (S z)) = S ([115, 116, 97, 116, 101, 32] ++ l ++ ([32, 49, 32, 50, 32] ++ z)) := by
  refine TL.ext_tl ?_
  unfold bodW
  rw [TL.join_eq, TL.tl_join]
  show [115, 116, 97, 116, 101] ++ ([32] ++ (l ++ ([32] ++ ([49] ++ ([32] ++ ([50] ++ ([32] ++ z))))))) = [115, 116, 97, 116, 101, 32] ++ l ++ ([32, 49, 32, 50, 32] ++ z)
  simp
theorem stW_fr {l z : List Nat} (hl : ∀ c ∈ l, 48 ≤ c ∧ c ≤ 57) (hz : ∀ c ∈ z, 48 ≤ c ∧ c ≤ 57) : ∀ w ∈ stW l (S z), ∀ c ∈ w.cps.toList, c ≠ 32 ∧ c ≠ 10 ∧ c ≠ 35 := by
  intro w hw c hc
  simp only [stW, List.mem_cons, List.not_mem_nil, or_false] at hw
  rcases hw with rfl | rfl | rfl | rfl | rfl
  · exact state_free c hc
  · have := hl c hc; omega
  · have hc : c ∈ [49] := hc
    rw [List.mem_singleton.mp hc]
    decide
  · have hc : c ∈ [50] := hc
    rw [List.mem_singleton.mp hc]
    decide
  · have := hz c hc; omega
theorem stW_split {l z : List Nat} (hl : ∀ c ∈ l, 48 ≤ c ∧ c ≤ 57) (hz : ∀ c ∈ z, 48 ≤ c ∧ c ≤ 57) : wordsL (bodW (stW l (S z))) = stW l (S z) :=
  TL.split_join (y := Str.ofString " ") (s := 32) (S := []) rfl (by decide +kernel) (List.cons_ne_nil _ _) fun w hw hm => (stW_fr hl hz w hw 32 hm).1 rfl
theorem rep_dig (k c : Nat) (h : 48 ≤ c ∧ c ≤ 57) : ∀ x ∈ List.replicate k c, 48 ≤ x ∧ x ≤ 57 := fun x hx => by
  rw [(List.mem_replicate.mp hx).2]
  exact h
theorem numV_dig {l : List Nat} (hl : ∀ c ∈ l, 48 ≤ c ∧ c ≤ 57) (h1 : 1 ≤ l.length) (h2 : l.length ≤ 4000) (h0 : l.head? ≠ some 48) : numV l = .int ((NumText.digitsVal l : Nat) : Int) := by
  unfold numV
  refine if_pos ?_
  unfold isNum
  rw [decide_eq_true ⟨h1, h2⟩, List.all_eq_true.mpr fun c hc => decide_eq_true (hl c hc), decide_eq_true h0, Bool.or_true]
  rfl
theorem nine_num : numV (List.replicate 4000 57) = .int ((NumText.digitsVal (List.replicate 4000 57) : Nat) : Int) :=
  numV_dig (rep_dig _ _ (by decide)) (by rw [List.length_replicate]; decide) (by rw [List.length_replicate]; decide) (by rw [show List.replicate 4000 57 = 57 :: List.replicate 3999 57 from List.replicate_succ]; decide)
theorem stW_nV (l z : List Nat) : nV (stW l (S z)) 1 = numV l ∧ nV (stW l (S z)) 2 = .int 1 ∧ nV (stW l (S z)) 3 = .int 2 ∧ nV (stW l (S z)) 4 = numV z :=
  ⟨rfl, by show numV [49] = _; decide +kernel, by show numV [50] = _; decide +kernel, rfl⟩
theorem nine_ok : WdOk (stW (List.replicate 4000 57) (S [49, 53])) where
  re := by
    obtain ⟨e1, e2, e3, e4⟩ := stW_nV (List.replicate 4000 57) [49, 53]
    unfold recB
    rw [if_pos ⟨rfl, rfl⟩, e1, e2, e3, e4, nine_num, show numV [49, 53] = .int 15 by decide +kernel]
    generalize NumText.digitsVal (List.replicate 4000 57) = d
    unfold tt
    simp only [isI, geZ, inI]
    simp
  ne := List.cons_ne_nil _ _
  fr := stW_fr (rep_dig _ _ (by decide)) (by decide)
  ln := by
    show (5 + ((List.replicate 4000 57).toArray.size + (1 + (1 + (2 + 0))))) + 5 ≤ 90000
    rw [List.size_toArray, List.length_replicate]
    decide
theorem ones_no {k : Nat} (h : 4000 < k) : recB (wordsL (bodW (stW (List.replicate k 49) (S [49])))) = false := by
  rw [stW_split (rep_dig _ _ (by decide)) (by decide)]
  obtain ⟨e1, e2, e3, e4⟩ := stW_nV (List.replicate k 49) [49]
  unfold recB
  rw [if_pos ⟨rfl, rfl⟩, e1]
  have e5 : numV (List.replicate k 49) = .non := by
    unfold numV
    refine if_neg ?_
    unfold isNum
    rw [List.length_replicate, decide_eq_false (show ¬ (1 ≤ k ∧ k ≤ 4000) by omega)]
    exact Bool.false_ne_true
  rw [e5]
  rfl
theorem sm_snocR {K : PySem.W.Frag} {H : Hp} {a b : Addr} {vs ws' : List V} {w : V} {rs : List Rc} {ws : List Str} (ha : H a = some (.lst vs)) (hb : H b = some (.lst (ws' ++ [w]))) (ok : ∀ r ∈ rs, RcOk r) (h : RsSh H vs (rs.map wordsR ++ [ws])) (g : RcsAt K H ws' rs) (hs : ∀ v, RecSh H v ws → SmV K H 3 v w) : SmV K H 4 (.ref a) (.ref b) := by
  obtain ⟨v1, v2, rfl, h1, h2⟩ := All2.splitN h
  cases h2 with
  | @cons v _ v3 _ h2 h3 =>
    cases h3
    have h1 : RcsAt K H v1 rs := RsSh.rcs ok h1
    have l1 := h1.len
    have l2 := g.len
    refine .inr (.inl ⟨a, b, _, _, rfl, rfl, .of ha, .of hb, by rw [List.length_append, List.length_append, l1, l2]; rfl, fun i x y e1 e2 => ?_⟩)
    by_cases c : i < rs.length
    · rw [List.getElem?_append_left (by omega)] at e1 e2
      obtain ⟨r, rr, k1, k2, _⟩ := h1.get _ _ e1
      obtain ⟨r', rr', g1, g2, _⟩ := g.get _ _ e2
      rw [k2] at g2
      obtain rfl := (List.cons.inj g2).1
      exact sm_rc k1 g1
    · rw [List.getElem?_append_right (by omega)] at e1 e2
      rw [l1] at e1
      rw [l2] at e2
      rcases z : i - rs.length with _ | m
      · rw [z] at e1 e2
        obtain rfl := Option.some.inj e1
        obtain rfl := Option.some.inj e2
        exact hs _ h2
      · rw [z] at e1
        simp at e1
theorem sm_rsR {K : PySem.W.Frag} {H : Hp} {a b : Addr} {vs ws' : List V} {rs : List Rc} (ha : H a = some (.lst vs)) (hb : H b = some (.lst ws')) (ok : ∀ r ∈ rs, RcOk r) (h : RsSh H vs (rs.map wordsR)) (g : RcsAt K H ws' rs) : SmV K H 4 (.ref a) (.ref b) := sm_rcs ha hb (RsSh.rcs ok h) g
theorem sm_list {K : PySem.W.Frag} {H : Hp} {a b : Addr} {xs : List V} (ha : H a = some (.lst xs)) (hb : H b = some (.lst xs)) (hs : ∀ x ∈ xs, scalarV x = true) : SmV K H 4 (.ref a) (.ref b) :=
  .inr (.inl ⟨a, b, _, _, rfl, rfl, .of ha, .of hb, rfl, fun i v w e1 e2 => by
    rw [e1] at e2
    obtain rfl := Option.some.inj e2
    exact .inl ⟨rfl, hs v (List.mem_of_getElem? e1)⟩⟩)
theorem sm_fb {K : PySem.W.Frag} {H : Hp} {v : V} {e j : Addr} (he : H e = some (.tup [.str (Str.ofString "frame"), .int 1, .ref j, .int 0, .int 1, .int 31, .str (Str.ofString "")])) (hj : H j = some (.tup [.int 0, .int 0])) (h : RecSh H v fbW) : SmV K H 3 v (.ref e) := by
  cases h.fb with
  | @fb a j2 ha hj2 =>
    refine .inr (.inr ⟨a, e, _, _, rfl, rfl, .of ha, .of he, rfl, fun i x y e1 e2 => ?_⟩)
    rcases i with _ | _ | _ | _ | _ | _ | _ | i
    · cases e1; cases e2; exact .inl ⟨rfl, rfl⟩
    · cases e1; cases e2; exact .inl ⟨rfl, rfl⟩
    · cases e1; cases e2; exact sm_row2 hj2 hj
    · cases e1; cases e2; exact .inl ⟨rfl, rfl⟩
    · cases e1; cases e2; exact .inl ⟨rfl, rfl⟩
    · cases e1; cases e2; exact .inl ⟨rfl, rfl⟩
    · cases e1; cases e2; exact .inl ⟨congrArg V.str e_empty.symm, rfl⟩
    · simp at e1
theorem st_rcAt {K : PySem.W.Frag} {H : Hp} {v : V} {l z : List Nat} {x y : Int} (hl : numV l = .int x) (hz : numV z = .int y) (h : RecSh H v (stW l (S z))) : RcAt K H v (.st ((x, 1), (2, y))) := by
  obtain ⟨e1, e2, e3, e4⟩ := stW_nV l z
  obtain ⟨a, e, ⟨t, t1, t2, h1, h0, h2, h3, h4, h5⟩ | ⟨j, h1, h0, h2, h3⟩⟩ := h
  · rw [e1, e2, hl] at h4
    rw [e3, e4, hz] at h5
    exact ⟨a, t, e, h2, t1, t2, .of h3, .of h4, .of h5⟩
  · exact absurd h1 (by show ¬ (5 : Nat) = 8; decide)
theorem All2.appN {α β : Type} {R : α → β → Prop} {as cs : List α} {bs ds : List β} (h : All2 R as bs) (g : All2 R cs ds) : All2 R (as ++ cs) (bs ++ ds) := by
  induction h with
  | nil => exact g
  | cons h _ ih => exact .cons h ih
def lsD : Hd := (2, 1, 0, 0, 1)
def lsR : List Rc := [.st T0, .fr lsD [0, 0] T0]
theorem ls_bits : bitsF lsD [0, 0] T0 = [48, 48, 48] := by decide +kernel
theorem tk0 : TkOk T0 := ⟨⟨by decide, by decide, by decide, by decide⟩, ⟨by decide, by decide, by decide, by decide⟩⟩
theorem ls_at {K : PySem.W.Frag} {H : Hp} {f j : Addr} (ef : H f = some (.tup [.str (Str.ofString "frame"), .int 2, .ref j, .int 0, .int 1, .int 961, .str (Str.ofString "000")])) (ej : H j = some (.tup [.int 1, .int 0])) : RcAt K H (.ref f) (.fr lsD [0, 0] T0) := ⟨f, j, rfl, by
    show H f = some (.tup [.str (Str.ofString "frame"), .int 2, .ref j, .int 0, .int 1, .int (markF [0, 0]), .str (SX.S (bitsF lsD [0, 0] T0))])
    rw [ls_bits, ef, show markF [0, 0] = 961 by decide +kernel]
    exact congrArg (fun z => some (HO.tup [.str (Str.ofString "frame"), .int 2, .ref j, .int 0, .int 1, .int 961, .str z])) (by decide +kernel), ej⟩
theorem ls_vd {rs : List Rc} {T : Tb × Tb} (hV : Vd T0 0 rs T 0) : Vd T0 0 (rs ++ lsR) (nextF lsD [0, 0] T0) 1 := by
  have h1 := Vd.st' tk0 hV
  have h2 := Vd.fr' (d := lsD) (ns := [0, 0]) (T2 := T0) (l2 := 0) ⟨by decide, by decide, by decide, by decide, by decide, by decide, by decide, by decide⟩ (by decide) rfl (by decide) tk0 h1
  rw [List.append_assoc] at h2
  exact h2
theorem ls_last : ∀ (rs : List Rc) (i pl : Nat) (lj : Nat × Nat), ∃ f, (frR i pl lj (rs ++ lsR)).getLast? = some f ∧ f.1 = i + rs.length + 1
  | [], i, pl, lj => ⟨_, rfl, rfl⟩
  | .st T :: rs, i, pl, lj => by
    obtain ⟨f, h1, h2⟩ := ls_last rs (i + 1) pl lj
    exact ⟨f, h1, by rw [h2, List.length_cons]; omega⟩
  | .fr d ns T :: rs, i, pl, lj => by
    obtain ⟨f, h1, h2⟩ := ls_last rs (i + 1) (pl + d.1) (d.2.1, d.2.2.1)
    refine ⟨f, ?_, by rw [h2, List.length_cons]; omega⟩
    show ((i, pl, d, lj, ns, T) :: frR (i + 1) (pl + d.1) (d.2.1, d.2.2.1) (rs ++ lsR)).getLast? = some f
    cases z : frR (i + 1) (pl + d.1) (d.2.1, d.2.2.1) (rs ++ lsR) with
    | nil => rw [z] at h1; cases h1
    | cons x y =>
      rw [z] at h1
      rw [List.getLast?_cons_cons]
      exact h1
theorem st5_ok : ∀ w ∈ [Str.ofString "state 2 1 2 1 #5"], 10 ∉ w.cps.toList ∧ w.length ≤ 1000 := by
  intro w hw
  rw [List.mem_singleton.mp hw]
  exact ⟨by decide +kernel, by decide +kernel⟩
theorem join_bd {rs : List Rc} {t : List Str} (ok : ∀ r ∈ rs, RcOk r) (hl : rs.length ≤ 40) (ht : ∀ w ∈ t, w.length ≤ 1000000) (htl : t.length ≤ 3) : ((linesR 1 rs ++ t).map (·.length)).sum + (linesR 1 rs ++ t).length * (Str.ofString "\n").length ≤ 16777216 := by
  have h1 := linesW_sum (okW ok) (by rw [List.length_map]; omega)
  rw [linesW_R] at h1
  have h2 := sum_le (l := t.map (·.length)) (b := 1000000) fun x hx => by
    obtain ⟨w, hw, rfl⟩ := List.mem_map.mp hx
    exact ht w hw
  rw [List.length_map] at h2
  have h3 : t.length * 1000000 ≤ 3 * 1000000 := Nat.mul_le_mul_right _ htl
  rw [one_nl, List.map_append, List.sum_append, List.length_append, linesR_length]
  omega
def spBadL : Sp := fun vs H Q _ => vs = [] ∧ ∀ D H', H D = none → Same H H' → H' D = some (.lst (badS.map V.str)) → Q (.ref D) H'
theorem use_badL {H : Hp} {Q : VK} {E : XK} (q : ∀ D H', H D = none → Same H H' → H' D = some (.lst (badS.map V.str)) → Q (.ref D) H') : spBadL [] H Q E := ⟨rfl, q⟩
def spMarked : Sp := fun vs H Q _ => ∃ (p : Addr) (T : Tb × Tb) (c : Int), vs = [.ref p, .str (bodyR (.st T)), .int c] ∧ Pool H p ∧ RcOk (.st T) ∧ (0 ≤ c ∧ c < 1000003) ∧ ∀ m H', BadL c (S m) ∧ 10 ∉ m ∧ m.length ≤ 1000000 ∧ 0 < m.length → Pool H' p → Kp p H H' → Q (.str (S m)) H'
theorem use_marked {p : Addr} {T : Tb × Tb} {c : Int} {x : Str} {H : Hp} {Q : VK} {E : XK} (e : x = bodyR (.st T)) (h : Pool H p) (ok : RcOk (.st T)) (hc : 0 ≤ c ∧ c < 1000003) (q : ∀ m H', BadL c (S m) ∧ 10 ∉ m ∧ m.length ≤ 1000000 ∧ 0 < m.length → Pool H' p → Kp p H H' → Q (.str (S m)) H') : spMarked ([.ref p, .str x, .int c] ++ []) H Q E := by
  subst e
  exact ⟨p, T, c, rfl, h, ok, hc, q⟩
def spWith : Sp := fun vs H Q _ => ∃ (a : Addr) (ls : List Str) (c : Int) (b : Str), vs = [.ref a, .int c, .str b] ∧ H a = some (.lst (ls.map V.str)) ∧ (0 ≤ c ∧ c < 1000003) ∧ ls.length ≤ 100 ∧ (ls.map (·.length)).sum ≤ 6000000 ∧ b.length ≤ 1000000 ∧ ∀ H', Same H H' → Q (.str (Txt.join (Str.ofString "\n") (ls ++ [lineS b (chkS c b)]))) H'
theorem use_with {a : Addr} {ls : List Str} {c : Int} {b : Str} {H : Hp} {Q : VK} {E : XK} (h : H a = some (.lst (ls.map V.str))) (hc : 0 ≤ c ∧ c < 1000003) (l1 : ls.length ≤ 100) (l2 : (ls.map (·.length)).sum ≤ 6000000) (l3 : b.length ≤ 1000000) (q : ∀ H', Same H H' → Q (.str (Txt.join (Str.ofString "\n") (ls ++ [lineS b (chkS c b)]))) H') : spWith ([.ref a, .int c, .str b] ++ []) H Q E := ⟨a, ls, c, b, rfl, h, hc, l1, l2, l3, q⟩
def spSzR (K : PySem.W.Frag) : Sp := fun vs H Q _ => ∃ (a b : Addr) (refs : List V) (rs : List Rc) (T : Tb × Tb), vs = [.ref a, .ref b, .int (chkR 1 rs)] ∧ H a = some (.lst ((linesR 1 rs).map V.str)) ∧ H b = some (.lst refs) ∧ RcsAt K H refs rs ∧ Vd T0 0 rs T 0 ∧ rs.length ≤ 40 ∧ ∀ H', Same H H' → Q (.bl true) H'
theorem use_szR {K : PySem.W.Frag} {a b : Addr} {refs : List V} {rs : List Rc} {T : Tb × Tb} {H : Hp} {Q : VK} {E : XK} (h1 : H a = some (.lst ((linesR 1 rs).map V.str))) (h2 : H b = some (.lst refs)) (h3 : RcsAt K H refs rs) (h4 : Vd T0 0 rs T 0) (h5 : rs.length ≤ 40) (q : ∀ H', Same H H' → Q (.bl true) H') : spSzR K ([.ref a, .ref b, .int (chkR 1 rs)] ++ []) H Q E := ⟨a, b, refs, rs, T, rfl, h1, h2, h3, h4, h5, q⟩
end Z
namespace Z
open PySem PySem.Spec PyProof.Rows L2
def topS (i : Nat) : Stmt := PySem.Challenge.pw_framejoins_k86_lines_refused.main.body.getD i (.Pass ⟨0, 0, 0, 0⟩)
local macro_rules | `(tactic| walk_at "hg") => `(tactic| first
  | assumption
  | (with_reducible exact upd_same)
  | ((with_reducible refine' look_new ?k1 ?k2); (case k1 => assumption); (case k2 => walk_at "hg"))
  | ((with_reducible refine' look_same ?k1 ?k2); (case k1 => assumption); (case k2 => walk_at "hg"))
  | ((with_reducible refine' look_kp ?k1 ?k2 ?k3); (case k1 => assumption); (case k2 => walk_at "ne"); (case k3 => walk_at "hg"))
  | ((with_reducible refine' look_upd ?k1 ?k2); (case k1 => assumption); (case k2 => walk_at "hg"))
  | fail)
local macro_rules | `(tactic| walk_at "ne") => `(tactic| first
  | assumption
  | ((with_reducible refine' Pool.ne' ?k1 ?k2); (case k1 => assumption); (case k2 => walk_at "pl"))
  | fail)
local macro_rules | `(tactic| walk_at "r1") => `(tactic| first
  | (with_reducible refine rd_seq ?_) | (with_reducible refine rd_asg ?_) | (with_reducible refine rd_gname ?_) | (with_reducible refine rd_ret ?_) | (with_reducible refine rd_ifs ?_)
  | ((with_reducible refine' rd_var ?k1 ?_); (case k1 => exact rfl))
  | ((with_reducible refine' rd_ixL ?k1 ?k2 ?_); (case k1 => walk_at "sq"); (case k2 => walk_at "at"))
  | ((with_reducible refine' rd_ixT ?k1 ?k2 ?_); (case k1 => walk_at "sqt"); (case k2 => walk_at "at"))
  | ((with_reducible refine' rd_setL ?k1 ?k2 ?_); (case k1 => walk_at "hg"); (case k2 => walk_at "ixn"))
  | ((with_reducible refine' rd_lenL ?k1 ?_); (case k1 => walk_at "sq"))
  | ((with_reducible refine' rd_listL ?k1 fun _ _ => ?_); (case k1 => walk_at "sq"))
  | ((with_reducible refine' rd_lenT ?k1 ?_); (case k1 => walk_at "sqt"))
  | ((with_reducible refine' rd_gtup ?k1 ?k2 ?_); (case k1 => walk_at "sqt"); (case k2 => exact rfl))
  | (with_reducible refine rd_gcons ?_) | (with_reducible refine rd_gnil ?_) | (with_reducible refine rd_forT ?_) | (with_reducible refine rd_forL ?_) | (with_reducible refine rd_for2 ?_)
  | ((with_reducible refine' rd_neT2 ?k1 ?k2 ?k3 ?k4 ?_); (case k1 => walk_at "sqt"); (case k2 => walk_at "sqt"); (case k3 => walk_at "f1"); (case k4 => walk_at "f2"))
  | ((with_reducible refine rd_n1 ?k1 ?k2 ?_); (case k1 => omega); (case k2 => omega))
  | ((with_reducible refine rd_n2 ?k1 ?_); (case k1 => exact ⟨by omega, by omega, by omega, by omega⟩))
  | (with_reducible refine rd_lcD fun _ _ => ?_)
  | ((with_reducible refine' lc_numbers ?k1 ?k2 ?k3 ?k4 ?k5 fun _ _ _ _ _ _ _ => ?_); (case k1 => exact fun _ => rfl); (case k2 => exact fun _ => rfl); (case k3 => walk_at "pl"); (case k4 => assumption); (case k5 => walk_at "sd"))
  | (with_reducible refine rd_for3 ?_) | (with_reducible refine rd_bm ?_)
  | ((with_reducible refine rd_n3 ?k1 ?_); (case k1 => walk_at "sd"))
  | ((with_reducible refine' rd_tyL ?k1 ?_); (case k1 => walk_at "hg"))
  | ((with_reducible refine' rd_catL ?k1 ?k2 ?k3 fun _ _ => ?_); (case k1 => walk_at "hg"); (case k2 => walk_at "hg"); (case k3 => walk_at "sd"))
  | ((with_reducible refine' rd_appI ?k1 ?k2 ?_); (case k1 => walk_at "hg"); (case k2 => walk_at "sd"))
  | ((with_reducible refine' use_once ?k1 ?k2 fun _ _ _ _ _ _ _ _ _ => ?_); (case k1 => walk_at "sq"); (case k2 => walk_at "sd"))
  | ((with_reducible refine' use_split ?k1 ?k2 ?k3 ?k4 ?k5 fun _ _ _ _ _ => ?_); (case k1 => walk_at "hg"); (case k2 => walk_at "sd"); (case k3 => walk_at "sd"); (case k4 => walk_at "sd"); (case k5 => walk_at "sd"))
  | ((with_reducible refine' use_splitK ?k1 ?k2 ?k3 ?k4 ?k5 fun _ _ _ _ _ => ?_); (case k1 => walk_at "hg"); (case k2 => walk_at "sd"); (case k3 => walk_at "sd"); (case k4 => walk_at "sd"); (case k5 => walk_at "sd"))
  | (with_reducible refine rd_sl ?_) | (with_reducible refine rd_part ?_) | (with_reducible refine rd_nopart ?_) | (with_reducible refine rd_oneI ?_)
  | (with_reducible refine rd_lcL ?_)
  | (with_reducible refine rd_forV ?_)
  | ((with_reducible refine rd_nV ?k1 ?k2 ?_); (case k1 => omega); (case k2 => omega))
  | ((with_reducible refine' use_join1 ?k1 ?k2 ?k3 ?k4 fun _ _ _ _ _ => ?_); (case k1 => walk_at "hg"); (case k2 => walk_at "hg"); (case k3 => walk_at "sd"); (case k4 => walk_at "sd"))
  | ((with_reducible refine' use_join ?k1 ?k2 ?k3 ?k4 ?k5 fun _ _ _ _ _ => ?_); (case k1 => walk_at "hg"); (case k2 => walk_at "sd"); (case k3 => walk_at "sd"); (case k4 => walk_at "sd"); (case k5 => walk_at "sd"))
  | ((with_reducible refine' use_joinK ?k1 ?k2 ?k3 ?k4 ?k5 fun _ _ _ _ _ => ?_); (case k1 => walk_at "hg"); (case k2 => walk_at "sd"); (case k3 => walk_at "sd"); (case k4 => walk_at "sd"); (case k5 => walk_at "sd"))
  | ((with_reducible refine' use_ints ?k1 ?k2 ?_); (case k1 => walk_at "hg"); (case k2 => walk_at "sd"))
  | (with_reducible refine rd_isN ?_) | (with_reducible refine rd_lc1 ?_) | (with_reducible refine rd_forE ?_) | (with_reducible refine rd_forZ ?_)
  | ((with_reducible refine' rd_neL ?k1 ?k2 ?_); (case k1 => walk_at "sq"); (case k2 => walk_at "sq"))
  | ((with_reducible refine' rd_eqL ?k1 ?k2 ?_); (case k1 => walk_at "sq"); (case k2 => walk_at "sq"))
  | ((with_reducible refine' rd_neN ?k1 ?k2 ?_); (case k1 => walk_at "sq"); (case k2 => walk_at "sq"))
  | (with_reducible refine rd_c ?_) | (with_reducible refine rd_op ?_) | (with_reducible refine rd_un ?_) | (with_reducible refine rd_i0 ?_)
  | ((with_reducible refine rd_i ?k1 ?_); (case k1 => walk_at "side"))
  | (with_reducible refine rd_u ?_)
  | (with_reducible refine rd_eq rfl ?_) | (with_reducible refine rd_ne rfl ?_) | (with_reducible refine rd_test ?_) | (with_reducible refine rd_b ?_) | (with_reducible refine rd_bl ?_)
  | (with_reducible refine rd_not ?_) | (with_reducible refine rd_and ?_) | (with_reducible refine rd_or ?_) | (with_reducible refine rd_andV ?_) | (with_reducible refine rd_orV ?_) | (with_reducible refine rd_notV ?_)
  | (with_reducible refine rd_if ?_) | (with_reducible refine rd_chain ?_) | (with_reducible refine rd_call ?_) | (with_reducible refine rd_callK ?_) | (with_reducible refine rd_cb ?_)
  | (with_reducible refine rd_cons ?_) | (with_reducible refine rd_nil ?_) | (with_reducible refine rd_next ?_) | (with_reducible refine rd_drop ?_) | (with_reducible refine rd_gsub ?_)
  | (with_reducible refine rd_int ?_) | (with_reducible refine rd_intb ?_) | (with_reducible refine rd_abs ?_) | (with_reducible refine rd_max ?_) | (with_reducible refine rd_min ?_)
  | (with_reducible refine rd_par ?_) | (with_reducible refine rd_par3 ?_) | (with_reducible refine rd_two ?_) | (with_reducible refine rd_three ?_)
  | (with_reducible refine rd_retn ?_) | (with_reducible refine rd_tup ?_) | (with_reducible refine rd_lst ?_) | (with_reducible refine rd_for1 ?_) | (with_reducible refine rd_one ?_)
  | ((with_reducible refine rd_all ?k1 fun _ _ => ?_); (case k1 => exact Nat.le_of_ble_eq_true rfl))
  | ((with_reducible refine use_take ?k1 ?k2 ?k3 fun _ _ _ _ _ _ => ?_); (case k1 => walk_at "pl"); (case k2 => walk_at "sd"); (case k3 => walk_at "sd"))
  | ((with_reducible refine use_number ?k1 fun _ _ _ _ _ => ?_); (case k1 => walk_at "pl"))
  | ((with_reducible refine' use_pool ?k1 ?k2 ?k3 ?k4 fun _ _ _ _ _ => ?_); (case k1 => walk_at "sq"); (case k2 => assumption); (case k3 => walk_at "sd"); (case k4 => walk_at "sd"))
  | ((with_reducible refine use_ckp ?k1 ?k2 ?_); (case k1 => walk_at "sd"); (case k2 => walk_at "sd"))
  | ((with_reducible refine use_pair ?k1 ?k2 fun _ _ => ?_); (case k1 => walk_at "sd"); (case k2 => walk_at "sd"))
  | ((with_reducible refine use_lfold ?k1 ?k2 fun _ _ _ _ => ?_); (case k1 => walk_at "sd"); (case k2 => walk_at "sd"))
  | ((with_reducible refine' use_ispair ?k1 ?_); (case k1 => walk_at "hg"))
  | ((with_reducible refine' use_items ?k1 fun _ _ => ?_); (case k1 => walk_at "sq"))
  | ((with_reducible refine' use_block ?k1 ?k2 ?k3 fun _ _ => ?_); (case k1 => walk_at "hg"); (case k2 => walk_at "sd"); (case k3 => walk_at "sd"))
  | ((with_reducible refine' use_mark ?k1 ?k2 fun _ _ => ?_); (case k1 => walk_at "hg"); (case k2 => walk_at "sd"))
  | (with_reducible refine use_code ?_)
  | ((with_reducible refine' use_same ?k1 fun _ _ => ?_); (case k1 => walk_at "smv"))
  | ((with_reducible refine use_quant ?k1 ?k2 ?_); (case k1 => walk_at "sd"); (case k2 => walk_at "sd"))
  | ((with_reducible refine use_quantK ?k1 ?k2 ?_); (case k1 => walk_at "sd"); (case k2 => walk_at "sd"))
  | (with_reducible refine use_isi_int ?_) | (with_reducible refine use_within_int ?_) | (with_reducible refine use_cki ?_)
  | ((with_reducible refine use_ckw ?k1 ?k2 ?_); (case k1 => walk_at "sd"); (case k2 => walk_at "sd"))
  | (with_reducible refine iteT ?_) | (with_reducible refine iteF ?_)
  | (with_reducible refine iteNT ?_) | (with_reducible refine iteNF ?_)
  | (walk_at "isi")
  | fail)
local macro_rules | `(tactic| walk_at "isi") => `(tactic| first
  | (with_reducible refine isi_int_int ?_)
  | (with_reducible refine isi_int_bool ?_)
  | (with_reducible refine isi_int_str ?_)
  | (with_reducible refine isi_int_list ?_)
  | (with_reducible refine isi_int_tuple ?_)
  | (with_reducible refine isi_bl_int ?_)
  | (with_reducible refine isi_bl_bool ?_)
  | (with_reducible refine isi_bl_str ?_)
  | (with_reducible refine isi_bl_list ?_)
  | (with_reducible refine isi_bl_tuple ?_)
  | (with_reducible refine isi_non_int ?_)
  | (with_reducible refine isi_non_bool ?_)
  | (with_reducible refine isi_non_str ?_)
  | (with_reducible refine isi_non_list ?_)
  | (with_reducible refine isi_non_tuple ?_)
  | (with_reducible refine isi_str_int ?_)
  | (with_reducible refine isi_str_bool ?_)
  | (with_reducible refine isi_str_str ?_)
  | (with_reducible refine isi_str_list ?_)
  | (with_reducible refine isi_str_tuple ?_)
  | ((with_reducible refine' isi_lst_int ?k1 ?_); (case k1 => walk_at "hg"))
  | ((with_reducible refine' isi_lst_bool ?k1 ?_); (case k1 => walk_at "hg"))
  | ((with_reducible refine' isi_lst_str ?k1 ?_); (case k1 => walk_at "hg"))
  | ((with_reducible refine' isi_lst_list ?k1 ?_); (case k1 => walk_at "hg"))
  | ((with_reducible refine' isi_lst_tuple ?k1 ?_); (case k1 => walk_at "hg"))
  | ((with_reducible refine' isi_tup_int ?k1 ?_); (case k1 => walk_at "hg"))
  | ((with_reducible refine' isi_tup_bool ?k1 ?_); (case k1 => walk_at "hg"))
  | ((with_reducible refine' isi_tup_str ?k1 ?_); (case k1 => walk_at "hg"))
  | ((with_reducible refine' isi_tup_list ?k1 ?_); (case k1 => walk_at "hg"))
  | ((with_reducible refine' isi_tup_tuple ?k1 ?_); (case k1 => walk_at "hg"))
  | fail)
local macro_rules | `(tactic| walk_at "side") => `(tactic| first
  | (show (0 : Int) < _; omega)
  | exact ⟨by omega, by omega⟩
  | exact .inl ⟨by omega, by omega⟩
  | exact .inr ⟨by omega, by omega⟩
  | exact .inr ⟨by decide, by decide⟩
  | exact ⟨by decide, by decide, by decide⟩
  | decide
  | fail)
local macro_rules | `(tactic| walk_at "rd") => `(tactic| (repeat walk_at "r1"))
local macro_rules | `(tactic| walk_at "sq") => `(tactic| first
  | assumption
  | ((with_reducible refine' SqL.of ?k1); (case k1 => walk_at "hg"))
  | ((with_reducible refine' sqL_new ?k1 ?k2); (case k1 => assumption); (case k2 => walk_at "sq"))
  | ((with_reducible refine' sqL_same ?k1 ?k2); (case k1 => assumption); (case k2 => walk_at "sq"))
  | fail)
local macro_rules | `(tactic| walk_at "sqt") => `(tactic| first
  | assumption
  | exact by_all (by assumption)
  | ((with_reducible refine' SqT.of ?k1); (case k1 => walk_at "hg"))
  | fail)
local macro_rules | `(tactic| walk_at "at") => `(tactic| first | assumption | exact atI_nat (j := 0) rfl | exact atI_nat (j := 1) rfl | exact atI_nat (j := 2) rfl | exact atI_nat (j := 3) rfl | fail)
local macro_rules | `(tactic| walk_at "ixn") => `(tactic| first | assumption | rfl | fail)
local macro_rules | `(tactic| walk_at "sd") => `(tactic| first | omega | decide +kernel | fail)
local macro_rules | `(tactic| walk_at "pl") => `(tactic| first
  | assumption
  | ((with_reducible refine' Pool.new' ?k1 ?k2); (case k1 => assumption); (case k2 => walk_at "pl"))
  | ((with_reducible refine' Pool.same' ?k1 ?k2); (case k1 => assumption); (case k2 => walk_at "pl"))
  | fail)
local macro_rules | `(tactic| walk_at "allm") => `(tactic| ((repeat (refine List.forall_mem_cons.mpr ⟨⟨_, rfl, by first | decide | omega, by first | decide | omega⟩, ?_⟩)); exact List.forall_mem_nil _))
local macro_rules | `(tactic| walk_at "kp") => `(tactic| first
  | assumption
  | exact Kp.refl
  | ((with_reducible refine' Kp.trans ?k1 (Kp.new ?k2)); (case k2 => assumption); walk_at "kp")
  | (refine' Kp.trans ?k1 ?k2; (case k2 => assumption); walk_at "kp")
  | (refine' Kp.trans ?k1 (Kp.of ?k2); (case k2 => assumption); walk_at "kp")
  | ((with_reducible refine' Kp.trans ?k1 Kp.at); walk_at "kp")
  | fail)
local macro_rules | `(tactic| walk_at "ct") => `(tactic| (refine' close_turn ?k1 ?k2 ?k3 ?k4; (case k1 => assumption); (case k2 => assumption); (case k3 => assumption); (case k4 => walk_at "kp")))
local macro_rules | `(tactic| walk_at "sm") => `(tactic| first
  | (with_reducible assumption)
  | (with_reducible exact Same.refl _)
  | ((with_reducible refine' Same.trans ?k1 (same_new ?k2)); (case k2 => assumption); walk_at "sm")
  | ((with_reducible refine' Same.trans ?k1 ?k2); (case k2 => (with_reducible assumption)); walk_at "sm")
  | fail)
local macro_rules | `(tactic| walk_at "f1") => `(tactic| first | rfl | exact congrArg Prod.fst (fold_unfold _ _ _) | exact congrArg Prod.fst (unfold_fold _ _ _) | fail)
local macro_rules | `(tactic| walk_at "f2") => `(tactic| first | rfl | exact congrArg Prod.snd (fold_unfold _ _ _) | exact congrArg Prod.snd (unfold_fold _ _ _) | fail)
local macro_rules | `(tactic| walk_at "smv") => `(tactic| first
  | (with_reducible assumption)
  | ((with_reducible refine sm_sc ?k1); (case k1 => exact rfl))
  | ((with_reducible refine' sm_ints ?k1 ?k2); (case k1 => walk_at "hg"); (case k2 => walk_at "hg"))
  | fail)
local macro_rules | `(tactic| walk_at "kp2") => `(tactic| first
  | exact Kp2.refl
  | exact Kp2.at
  | ((with_reducible refine' Kp2.trans ?k1 Kp2.at); walk_at "kp2")
  | ((with_reducible refine' Kp2.trans ?k1 (Kp2.new ?k2)); (case k2 => assumption); walk_at "kp2")
  | (refine' Kp2.trans ?k1 (Kp2.ofK ?k2); (case k2 => assumption); walk_at "kp2")
  | (refine' Kp2.trans ?k1 (Kp2.ofS ?k2); (case k2 => assumption); walk_at "kp2")
  | fail)
local macro_rules | `(tactic| walk_at "ty") => `(tactic| first
  | exact True.intro
  | ((refine' Or.inl ⟨_, ?k1⟩); (case k1 => walk_at "hg"))
  | ((refine' Or.inr ⟨_, ?k1⟩); (case k1 => walk_at "hg"))
  | fail)
local macro_rules | `(tactic| walk_at "jr") => `(tactic| first
  | exact ⟨_, JR.flat rfl⟩
  | ((refine' ⟨_, JR.tup2 ?k1 ?k2 ?k3⟩); (case k1 => walk_at "hg"); (case k2 => walk_at "ty"); (case k3 => walk_at "ty"))
  | ((refine' ⟨_, JR.tupn ?k1 ?k2⟩); (case k1 => walk_at "hg"); (case k2 => simp))
  | ((refine' ⟨_, JR.lst ?k1⟩); (case k1 => walk_at "hg"))
  | fail)
local macro_rules | `(tactic| walk_at "jr1") => `(tactic| ((refine' List.forall_mem_cons.mpr ⟨?k1, ?_⟩); (case k1 => walk_at "jr")))
local macro_rules | `(tactic| walk_at "alljr") => `(tactic| ((repeat walk_at "jr1"); exact List.forall_mem_nil _))
local macro_rules | `(tactic| walk_at "r1") => `(tactic| first
  | ((with_reducible refine' rd_raiseV ?k1 ?_); (case k1 => exact rfl))
  | (with_reducible refine rd_raiseC ?_)
  | ((with_reducible refine' rd_lam ?k1 fun _ _ _ => ?_); (case k1 => walk_at "tb"))
  | (with_reducible refine rd_told ?_)
  | (with_reducible refine rd_xf ?_)
  | fail)
local macro_rules | `(tactic| walk_at "tb") => `(tactic| first
  | assumption
  | ((with_reducible refine' Tabs.new ?k1 ?k2); (case k1 => assumption); (case k2 => walk_at "tb"))
  | ((with_reducible refine' Tabs.same ?k1 ?k2); (case k1 => assumption); (case k2 => walk_at "tb"))
  | ((with_reducible refine' Tabs.kp ?k0 ?k1 ?k2); (case k1 => assumption); (case k0 => walk_at "pl"); (case k2 => walk_at "tb"))
  | fail)
local macro_rules | `(tactic| walk_at "kpn") => `(tactic| first
  | assumption
  | exact KpN.refl
  | ((with_reducible refine' KpN.trans ?k1 (KpN.new ?k2)); (case k2 => assumption); walk_at "kpn")
  | ((with_reducible refine' KpN.trans ?k1 ?k2); (case k2 => assumption); walk_at "kpn")
  | ((with_reducible refine' KpN.trans ?k1 (KpN.ofK ?k2)); (case k2 => assumption); walk_at "kpn")
  | ((with_reducible refine' KpN.trans ?k1 (KpN.of ?k2)); (case k2 => assumption); walk_at "kpn")
  | ((with_reducible refine' KpN.trans ?k1 (KpN.ofN ?k2)); (case k2 => assumption); walk_at "kpn")
  | ((with_reducible refine' KpN.trans ?k1 KpN.at); walk_at "kpn")
  | fail)
local macro_rules | `(tactic| walk_at "hg") => `(tactic| first
  | ((with_reducible refine' look_extL ?k1 ?k2); (case k1 => assumption); (case k2 => walk_at "hg"))
  | ((with_reducible refine' look_extT ?k1 ?k2); (case k1 => assumption); (case k2 => walk_at "hg"))
  | fail)
local macro_rules | `(tactic| walk_at "als") => `(tactic| ((repeat (refine List.forall_mem_cons.mpr ⟨rfl, ?_⟩)); exact List.forall_mem_nil _))
local macro_rules | `(tactic| walk_at "dv1") => `(tactic| first
  | exact DV.sc rfl
  | ((refine' DV.lst ?n ?e ?s); (case n => walk_at "ne"); (case e => walk_at "hg"); (case s => walk_at "als"))
  | ((refine' DV.tup ?n ?e ?s); (case n => walk_at "ne"); (case e => walk_at "hg"); (case s => walk_at "als"))
  | fail)
local macro_rules | `(tactic| walk_at "dvm1") => `(tactic| ((refine' List.forall_mem_cons.mpr ⟨⟨?d, ?i⟩, ?_⟩); (case d => walk_at "dv1"); (case i => first | rfl | decide)))
local macro_rules | `(tactic| walk_at "dvm") => `(tactic| ((repeat walk_at "dvm1"); exact List.forall_mem_nil _))
local macro_rules | `(tactic| walk_at "r1") => `(tactic| first
  | ((with_reducible refine' rd_callL ?k1 ?_); (case k1 => exact rfl))
  | ((with_reducible refine' use_sound ?k1 fun _ _ => ?_); (case k1 => walk_at "hg"))
  | fail)
local macro_rules | `(tactic| walk_at "r1") => `(tactic| first
  | ((with_reducible refine' use_ljoints ?k1 ?k2 fun _ _ _ _ _ _ _ _ _ _ => ?_); (case k1 => walk_at "pl"); (case k2 => walk_at "sd"))
  | fail)
local macro_rules | `(tactic| walk_at "r1") => `(tactic| first
  | ((with_reducible refine' use_folds ?k1 ?k2 ?k3 ?k4 ?k5 fun _ _ _ _ _ => ?_); (case k1 => walk_at "hg"); (case k2 => walk_at "hg"); (case k3 => walk_at "js"); (case k4 => assumption); (case k5 => walk_at "sd"))
  | ((with_reducible refine' use_partner ?k1 ?k2 ?k3 ?_); (case k1 => walk_at "hg"); (case k2 => walk_at "js"); (case k3 => assumption))
  | fail)
local macro_rules | `(tactic| walk_at "js") => `(tactic| first
  | assumption
  | ((with_reducible refine' JsAt.new' ?k1 ?k2); (case k1 => assumption); (case k2 => walk_at "js"))
  | ((with_reducible refine' JsAt.same' ?k1 ?k2); (case k1 => assumption); (case k2 => walk_at "js"))
  | ((with_reducible refine' JsAt.at' ?k1 ?k2); (case k1 => walk_at "hg"); (case k2 => walk_at "js"))
  | fail)
local macro_rules | `(tactic| walk_at "kpl") => `(tactic| first
  | assumption
  | exact KpL.refl
  | ((with_reducible refine' KpL.trans ?k1 (KpL.new ?k2)); (case k2 => assumption); walk_at "kpl")
  | ((with_reducible refine' KpL.trans ?k1 ?k2); (case k2 => assumption); walk_at "kpl")
  | ((with_reducible refine' KpL.trans ?k1 (KpL.ofK ?k3 ?k2)); (case k2 => assumption); (case k3 => simp); walk_at "kpl")
  | ((with_reducible refine' KpL.trans ?k1 (KpL.ofS ?k2)); (case k2 => assumption); walk_at "kpl")
  | ((with_reducible refine' KpL.trans ?k1 (KpL.at ?k3)); (case k3 => simp); walk_at "kpl")
  | fail)
local macro_rules | `(tactic| walk_at "lt") => `(tactic| first
  | assumption
  | ((with_reducible refine' LT.new' ?k1 ?k2); (case k1 => assumption); (case k2 => walk_at "lt"))
  | ((with_reducible refine' LT.same' ?k1 ?k2); (case k1 => assumption); (case k2 => walk_at "lt"))
  | ((with_reducible refine' LT.l ?k1); (case k1 => walk_at "hg"))
  | ((with_reducible refine' LT.t ?k1); (case k1 => walk_at "hg"))
  | fail)
local macro_rules | `(tactic| walk_at "r1") => `(tactic| first
  | (with_reducible refine rd_forEA ?_) | (with_reducible refine rd_forS ?_)
  | ((with_reducible refine' use_soundA ?k1 fun _ _ => ?_); (case k1 => walk_at "lt"))
  | ((with_reducible refine' use_itemsA ?k1 fun _ _ => ?_); (case k1 => walk_at "lt"))
  | ((with_reducible refine' rd_lenA ?k1 ?_); (case k1 => walk_at "lt"))
  | ((with_reducible refine' rd_listA ?k1 fun _ _ => ?_); (case k1 => walk_at "lt"))
  | ((with_reducible refine' rd_tupL ?k1 fun _ _ => ?_); (case k1 => walk_at "sq"))
  | ((with_reducible refine' use_foldsA ?k1 ?k2 ?k3 ?k4 ?k5 fun _ _ _ _ _ => ?_); (case k1 => walk_at "lt"); (case k2 => walk_at "lt"); (case k3 => walk_at "js"); (case k4 => assumption); (case k5 => walk_at "sd"))
  | ((with_reducible refine' use_foldsAK ?k1 ?k2 ?k3 ?k4 ?k5 fun _ _ _ _ _ => ?_); (case k1 => walk_at "lt"); (case k2 => walk_at "lt"); (case k3 => walk_at "js"); (case k4 => assumption); (case k5 => walk_at "sd"))
  | fail)
local macro_rules | `(tactic| walk_at "r1") => `(tactic| first
  | (with_reducible refine rd_bits ?_)
  | ((with_reducible refine' use_row ?k1 fun _ _ _ _ _ => ?_); (case k1 => walk_at "pl"))
  | fail)
local macro_rules | `(tactic| walk_at "smm1") => `(tactic| ((refine' List.forall_mem_cons.mpr ⟨?a, ?_⟩); (case a => first | exact True.intro | (show Int.natAbs _ < _; omega) | (show Int.natAbs _ < _; decide))))
local macro_rules | `(tactic| walk_at "smm") => `(tactic| ((repeat walk_at "smm1"); exact List.forall_mem_nil _))
local macro_rules | `(tactic| walk_at "rv1") => `(tactic| first
  | exact RV.sc rfl
  | ((refine' RV.lst ?n ?e ?s ?t); (case n => walk_at "ne"); (case e => walk_at "hg"); (case s => walk_at "als"); (case t => walk_at "smm"))
  | ((refine' RV.tup ?n ?e ?s ?t); (case n => walk_at "ne"); (case e => walk_at "hg"); (case s => walk_at "als"); (case t => walk_at "smm"))
  | fail)
local macro_rules | `(tactic| walk_at "rvm1") => `(tactic| ((refine' List.forall_mem_cons.mpr ⟨?d, ?_⟩); (case d => walk_at "rv1")))
local macro_rules | `(tactic| walk_at "rvm") => `(tactic| ((repeat walk_at "rvm1"); exact List.forall_mem_nil _))
local macro_rules | `(tactic| walk_at "tsr1") => `(tactic| first
  | exact TSR.flat rfl
  | ((refine' TSR.lst ?e); (case e => walk_at "hg"))
  | ((refine' TSR.tupn ?e ?n); (case e => walk_at "hg"); (case n => simp))
  | exact RV.tsr (by assumption)
  | fail)
local macro_rules | `(tactic| walk_at "tsrm1") => `(tactic| ((refine' List.forall_mem_cons.mpr ⟨?d, ?_⟩); (case d => walk_at "tsr1")))
local macro_rules | `(tactic| walk_at "tsrm") => `(tactic| ((repeat walk_at "tsrm1"); exact List.forall_mem_nil _))
local macro_rules | `(tactic| walk_at "sl") => `(tactic| first
  | (with_reducible exact e_0)
  | (with_reducible exact e_1)
  | (with_reducible exact e_01)
  | (with_reducible exact e_empty)
  | (with_reducible exact eb)
  | (with_reducible exact rfl)
  | fail)
local macro_rules | `(tactic| walk_at "sdl") => `(tactic| first
  | assumption
  | omega
  | (simp only [List.length_append, List.length_replicate, lowB_length, binB_length, List.length_cons, List.length_nil, List.length_map, List.length_drop, List.length_take]; omega)
  | fail)
local macro_rules | `(tactic| walk_at "r1") => `(tactic| first
  | ((with_reducible refine' rd_addT ?k1 ?k2 ?k3 ?_); (case k1 => walk_at "sl"); (case k2 => walk_at "sl"); (case k3 => walk_at "sdl"))
  | ((with_reducible refine' rd_mulT ?k1 ?k2 ?_); (case k1 => walk_at "sl"); (case k2 => walk_at "sdl"))
  | ((with_reducible refine' rd_lenS ?k1 ?_); (case k1 => walk_at "sdl"))
  | ((with_reducible refine' rd_slSF ?k1 ?_); (case k1 => walk_at "sdl"))
  | ((with_reducible refine' rd_slST ?k1 ?_); (case k1 => walk_at "sdl"))
  | ((with_reducible refine' rd_joinS ?k1 ?k2 ?k3 ?_); (case k1 => walk_at "sl"); (case k2 => walk_at "sq"); (case k3 => walk_at "sdl"))
  | (with_reducible refine rd_bit ?_)
  | ((with_reducible refine' rd_tupL ?k1 fun _ _ => ?_); (case k1 => walk_at "sq"))
  | (with_reducible refine rd_fmtb ?_) | (with_reducible refine rd_shr ?_)
  | ((with_reducible refine' rd_fmtn ?k1 ?k2 ?_); (case k1 => walk_at "sl"); (case k2 => walk_at "sdl"))
  | (with_reducible refine rd_bmS ?_) | (with_reducible refine rd_tyS ?_)
  | ((with_reducible refine' use_start ?k1 fun _ _ _ _ _ _ _ _ _ => ?_); (case k1 => walk_at "pl"))
  | fail)
local macro_rules | `(tactic| walk_at "r1") => `(tactic| first
  | (with_reducible refine use_numW ?_) | (with_reducible refine rd_notBl ?_)
  | ((with_reducible refine' rd_find ?k1 ?k2 ?_); (case k1 => walk_at "sl"); (case k2 => walk_at "sdl"))
  | ((with_reducible refine' rd_strip ?k1 ?k2 ?k3 ?_); (case k1 => walk_at "sl"); (case k2 => walk_at "sdl"); (case k3 => assumption))
  | fail)
local macro_rules | `(tactic| walk_at "r1") => `(tactic| first
  | (with_reducible refine rd_toldM fun _ _ => ?_)
  | ((with_reducible refine' use_oddE ?k1 fun _ _ _ _ _ => ?_); (case k1 => walk_at "pl"))
  | fail)
local macro_rules | `(tactic| walk_at "ne") => `(tactic| first
  | (refine' ne_new ?k1 ?k2; (case k1 => assumption); (case k2 => walk_at "hg"))
  | fail)
local macro_rules | `(tactic| walk_at "alo") => `(tactic| ((repeat (refine List.forall_mem_cons.mpr ⟨?_, ?_⟩; first | rfl | decide +kernel)); exact List.forall_mem_nil _))
local macro_rules | `(tactic| walk_at "nm") => `(tactic| ((refine' nm_cons ?n1 ?n2); (case n1 => walk_at "ne"); (case n2 => first | exact List.not_mem_nil | walk_at "nm")))
local macro_rules | `(tactic| walk_at "ev1") => `(tactic| first
  | exact EV.sc rfl
  | exact EV.sc (by decide +kernel)
  | ((refine' EV.lst ?n ?e ?s); (case n => walk_at "nm"); (case e => walk_at "hg"); (case s => walk_at "alo"))
  | ((refine' EV.tup ?n ?e ?s); (case n => walk_at "nm"); (case e => walk_at "hg"); (case s => walk_at "alo"))
  | fail)
local macro_rules | `(tactic| walk_at "evm1") => `(tactic| ((refine' List.forall_mem_cons.mpr ⟨?d, ?_⟩); (case d => walk_at "ev1")))
local macro_rules | `(tactic| walk_at "evm") => `(tactic| ((repeat walk_at "evm1"); exact List.forall_mem_nil _))
local macro_rules | `(tactic| walk_at "kln") => `(tactic| first
  | assumption
  | exact KpLN.refl
  | ((with_reducible refine' KpLN.trans ?k1 (KpLN.new ?k2)); (case k2 => assumption); walk_at "kln")
  | ((with_reducible refine' KpLN.trans ?k1 ?k2); (case k2 => assumption); walk_at "kln")
  | ((with_reducible refine' KpLN.trans ?k1 (KpLN.ofK ?k3 ?k2)); (case k2 => assumption); (case k3 => simp); walk_at "kln")
  | ((with_reducible refine' KpLN.trans ?k1 (KpLN.of ?k2)); (case k2 => assumption); walk_at "kln")
  | ((with_reducible refine' KpLN.trans ?k1 (KpLN.ofN ?k2)); (case k2 => assumption); walk_at "kln")
  | ((with_reducible refine' KpLN.trans ?k1 (KpLN.ofL ?k2)); (case k2 => assumption); walk_at "kln")
  | fail)
local macro_rules | `(tactic| walk_at "pv0") => `(tactic| first
  | exact PV.sc rfl
  | exact PV.sc (by decide +kernel)
  | fail)
local macro_rules | `(tactic| walk_at "pv1") => `(tactic| first
  | walk_at "pv0"
  | ((refine' PV.tup ?n ?e ?s); (case n => walk_at "nm"); (case e => walk_at "hg"); (case s => walk_at "pvm0"))
  | ((refine' PV.lst ?n ?e ?s); (case n => walk_at "nm"); (case e => walk_at "hg"); (case s => walk_at "pvm0"))
  | fail)
local macro_rules | `(tactic| walk_at "pv2") => `(tactic| first
  | walk_at "pv0"
  | ((refine' PV.tup ?n ?e ?s); (case n => walk_at "nm"); (case e => walk_at "hg"); (case s => walk_at "pvm1"))
  | ((refine' PV.lst ?n ?e ?s); (case n => walk_at "nm"); (case e => walk_at "hg"); (case s => walk_at "pvm1"))
  | fail)
local macro_rules | `(tactic| walk_at "pvs0") => `(tactic| ((refine' List.forall_mem_cons.mpr ⟨?d, ?_⟩); (case d => walk_at "pv0")))
local macro_rules | `(tactic| walk_at "pvm0") => `(tactic| ((repeat walk_at "pvs0"); exact List.forall_mem_nil _))
local macro_rules | `(tactic| walk_at "pvs1") => `(tactic| ((refine' List.forall_mem_cons.mpr ⟨?d, ?_⟩); (case d => walk_at "pv1")))
local macro_rules | `(tactic| walk_at "pvm1") => `(tactic| ((repeat walk_at "pvs1"); exact List.forall_mem_nil _))
local macro_rules | `(tactic| walk_at "pvs2") => `(tactic| ((refine' List.forall_mem_cons.mpr ⟨?d, ?_⟩); (case d => walk_at "pv2")))
local macro_rules | `(tactic| walk_at "pvm2") => `(tactic| ((repeat walk_at "pvs2"); exact List.forall_mem_nil _))
local macro_rules | `(tactic| walk_at "nm") => `(tactic| first
  | (refine' nm_al ?hl ?k ?hp ?n; (case hl => assumption); (case n => assumption); (case k => walk_at "kp"); (case hp => walk_at "pl"))
  | fail)
local macro_rules | `(tactic| walk_at "trt") => `(tactic| (refine' tr_ok ?h ?a ?b ?c; (case h => walk_at "hg"); (case a => first | decide | omega); (case b => first | decide | omega); (case c => first | decide | omega)))
local macro_rules | `(tactic| walk_at "stf1") => `(tactic| ((refine' List.forall_mem_cons.mpr ⟨⟨?d, ?e⟩, ?_⟩); (case d => walk_at "pv2"); (case e => first | walk_at "tsf" | (refine' tsr_ii ?h; (case h => walk_at "hg")))))
local macro_rules | `(tactic| walk_at "stfm") => `(tactic| ((repeat walk_at "stf1"); exact List.forall_mem_nil _))
local macro_rules | `(tactic| walk_at "pni1") => `(tactic| ((refine' List.forall_mem_cons.mpr ⟨⟨?d, ?e⟩, ?_⟩); (case d => walk_at "pv1"); (case e => exact fun _ z => nomatch z)))
local macro_rules | `(tactic| walk_at "pnim") => `(tactic| ((repeat walk_at "pni1"); exact List.forall_mem_nil _))
local macro_rules | `(tactic| walk_at "r1") => `(tactic| first
  | ((with_reducible refine' use_listV ?k1 fun _ _ _ _ _ => ?_); (case k1 => walk_at "pl"))
  | ((with_reducible refine' use_startX ?k1 fun _ _ _ _ _ _ _ => ?_); (case k1 => walk_at "pl"))
  | fail)
local macro_rules | `(tactic| walk_at "r1") => `(tactic| first
  | ((with_reducible refine' use_tabsX ?k1 fun _ _ _ _ _ _ _ _ => ?_); (case k1 => walk_at "pl"))
  | ((with_reducible refine' use_heads ?k1 ?k2 fun _ _ _ _ _ _ _ _ _ _ _ => ?_); (case k1 => walk_at "pl"); (case k2 => walk_at "sd"))
  | ((with_reducible refine' use_someX ?k1 ?k2 fun _ _ _ _ _ _ _ _ _ => ?_); (case k1 => walk_at "pl"); (case k2 => walk_at "sd"))
  | fail)
local macro_rules | `(tactic| walk_at "at") => `(tactic| first | exact atI_nat (j := 4) rfl | exact atI_nat (j := 5) rfl | exact atI_nat (j := 6) rfl | exact atI_nat (j := 7) rfl | fail)
local macro_rules | `(tactic| walk_at "r1") => `(tactic| first
  | ((with_reducible refine' rd_aug ?k1 ?_); (case k1 => exact rfl))
  | (with_reducible refine rd_ipI ?_)
  | ((with_reducible refine use_takeB ?k1 ?k2 ?k3 fun _ _ _ _ _ _ => ?_); (case k1 => walk_at "pl"); (case k2 => walk_at "sd"); (case k3 => walk_at "sd"))
  | fail)
local macro_rules | `(tactic| walk_at "side") => `(tactic| exact wide_div (b := 64) (by omega) (by omega) (by decide) (by decide))
abbrev s_is_integer : Stmt := topS 12
theorem sc_is_integer : FnScope ["value"] ["value"] (defScope s_is_integer) := ⟨rfl, rfl, rfl, by decide +kernel, rfl, by decide +kernel, by decide +kernel⟩
abbrev s_is_within : Stmt := topS 13
theorem sc_is_within : FnScope ["value", "low", "high"] ["value", "low", "high"] (defScope s_is_within) := ⟨rfl, rfl, rfl, by decide +kernel, rfl, by decide +kernel, by decide +kernel⟩
abbrev s_check_integer : Stmt := topS 14
theorem sc_check_integer : FnScope ["value"] ["value"] (defScope s_check_integer) := ⟨rfl, rfl, rfl, by decide +kernel, rfl, by decide +kernel, by decide +kernel⟩
abbrev s_check_within : Stmt := topS 15
theorem sc_check_within : FnScope ["value", "low", "high"] ["value", "low", "high"] (defScope s_check_within) := ⟨rfl, rfl, rfl, by decide +kernel, rfl, by decide +kernel, by decide +kernel⟩
abbrev s_check_items : Stmt := topS 16
theorem sc_check_items : FnScope ["values", "index", "value"] ["values"] (defScope s_check_items) := ⟨rfl, rfl, rfl, by decide +kernel, rfl, by decide +kernel, by decide +kernel⟩
abbrev s_check_block : Stmt := topS 18
theorem sc_check_block : FnScope ["values", "least"] ["values", "least"] (defScope s_check_block) := ⟨rfl, rfl, rfl, by decide +kernel, rfl, by decide +kernel, by decide +kernel⟩
abbrev s_is_joint : Stmt := topS 24
theorem sc_is_joint : FnScope ["value", "width", "shape"] ["value"] (defScope s_is_joint) := ⟨rfl, rfl, rfl, by decide +kernel, rfl, by decide +kernel, by decide +kernel⟩
abbrev s_coarse_count : Stmt := topS 37
theorem sc_coarse_count : FnScope ["length", "levels", "many", "level"] ["length", "levels"] (defScope s_coarse_count) := ⟨rfl, rfl, rfl, by decide +kernel, rfl, by decide +kernel, by decide +kernel⟩
abbrev s_is_table : Stmt := topS 45
theorem sc_is_table : FnScope ["value", "total", "count"] ["value"] (defScope s_is_table) := ⟨rfl, rfl, rfl, by decide +kernel, rfl, by decide +kernel, by decide +kernel⟩
abbrev s_is_tables : Stmt := topS 46
theorem sc_is_tables : FnScope ["value"] ["value"] (defScope s_is_tables) := ⟨rfl, rfl, rfl, by decide +kernel, rfl, by decide +kernel, by decide +kernel⟩
abbrev s_parameter : Stmt := topS 47
theorem sc_parameter : FnScope ["table", "total", "count", "least"] ["table"] (defScope s_parameter) := ⟨rfl, rfl, rfl, by decide +kernel, rfl, by decide +kernel, by decide +kernel⟩
abbrev s_table_behind : Stmt := topS 48
theorem sc_table_behind : FnScope ["table", "code", "total", "count"] ["table", "code"] (defScope s_table_behind) := ⟨rfl, rfl, rfl, by decide +kernel, rfl, by decide +kernel, by decide +kernel⟩
abbrev s_code_number : Stmt := topS 49
theorem sc_code_number : FnScope ["number"] ["number"] (defScope s_code_number) := ⟨rfl, rfl, rfl, by decide +kernel, rfl, by decide +kernel, by decide +kernel⟩
abbrev s_number_with : Stmt := topS 50
theorem sc_number_with : FnScope ["code"] ["code"] (defScope s_number_with) := ⟨rfl, rfl, rfl, by decide +kernel, rfl, by decide +kernel, by decide +kernel⟩
abbrev s_read_numbers : Stmt := topS 51
theorem sc_read_numbers : FnScope ["bits", "length", "coarse", "tables", "now", "numbers", "place", "at", "which", "found", "code"] ["bits", "length", "coarse", "tables"] (defScope s_read_numbers) := ⟨rfl, rfl, rfl, by decide +kernel, rfl, by decide +kernel, by decide +kernel⟩
abbrev s_check_coding : Stmt := topS 52
theorem sc_check_coding : FnScope ["length", "coarse", "tables"] ["length", "coarse", "tables"] (defScope s_check_coding) := ⟨rfl, rfl, rfl, by decide +kernel, rfl, by decide +kernel, by decide +kernel⟩
abbrev s_read_code : Stmt := topS 53
theorem sc_read_code : FnScope ["bits", "place", "k", "zero", "ones", "many", "end", "digits", "low"] ["bits", "place", "k"] (defScope s_read_code) := ⟨rfl, rfl, rfl, by decide +kernel, rfl, by decide +kernel, by decide +kernel⟩
abbrev s_mark_of : Stmt := topS 54
theorem sc_mark_of : FnScope ["numbers", "mark", "number"] ["numbers"] (defScope s_mark_of) := ⟨rfl, rfl, rfl, by decide +kernel, rfl, by decide +kernel, by decide +kernel⟩
abbrev s_is_record : Stmt := topS 57
theorem sc_is_record : FnScope ["value"] ["value"] (defScope s_is_record) := ⟨rfl, rfl, rfl, by decide +kernel, rfl, by decide +kernel, by decide +kernel⟩
abbrev s_is_state : Stmt := topS 58
theorem sc_is_state : FnScope ["value"] ["value"] (defScope s_is_state) := ⟨rfl, rfl, rfl, by decide +kernel, rfl, by decide +kernel, by decide +kernel⟩
abbrev s_is_frame : Stmt := topS 59
theorem sc_is_frame : FnScope ["value", "mark", "bits"] ["value"] (defScope s_is_frame) := ⟨rfl, rfl, rfl, by decide +kernel, rfl, by decide +kernel, by decide +kernel⟩
abbrev s_is_layout : Stmt := topS 60
theorem sc_is_layout : FnScope ["value", "length", "joint", "levels", "step"] ["value"] (defScope s_is_layout) := ⟨rfl, rfl, rfl, by decide +kernel, rfl, by decide +kernel, by decide +kernel⟩
abbrev s_is_bits : Stmt := topS 61
theorem sc_is_bits : FnScope ["value"] ["value"] (defScope s_is_bits) := ⟨rfl, rfl, rfl, by decide +kernel, rfl, by decide +kernel, by decide +kernel⟩
abbrev s_read_frame : Stmt := topS 62
theorem sc_read_frame : FnScope ["record", "tables", "length", "joint", "levels", "step", "mark", "bits", "found"] ["record", "tables"] (defScope s_read_frame) := ⟨rfl, rfl, rfl, by decide +kernel, rfl, by decide +kernel, by decide +kernel⟩
abbrev s_check_records : Stmt := topS 66
theorem sc_check_records : FnScope ["records", "index", "record"] ["records"] (defScope s_check_records) := ⟨rfl, rfl, rfl, by decide +kernel, rfl, by decide +kernel, by decide +kernel⟩
abbrev s_read_frames : Stmt := topS 67
theorem sc_read_frames : FnScope ["records", "frames", "tables", "start", "left", "index", "record", "length", "right", "found", "numbers", "behind"] ["records"] (defScope s_read_frames) := ⟨rfl, rfl, rfl, by decide +kernel, rfl, by decide +kernel, by decide +kernel⟩
abbrev s_check_behind : Stmt := topS 78
theorem sc_check_behind : FnScope ["words", "check", "sign"] ["words", "check"] (defScope s_check_behind) := ⟨rfl, rfl, rfl, by decide +kernel, rfl, by decide +kernel, by decide +kernel⟩
abbrev s_recovered_records : Stmt := topS 79
theorem sc_recovered_records : FnScope ["text"] ["text"] (defScope s_recovered_records) := ⟨rfl, rfl, rfl, by decide +kernel, rfl, by decide +kernel, by decide +kernel⟩
abbrev s_parse_stream : Stmt := topS 80
theorem sc_parse_stream : FnScope ["text", "records", "wrong"] ["text"] (defScope s_parse_stream) := ⟨rfl, rfl, rfl, by decide +kernel, rfl, by decide +kernel, by decide +kernel⟩
abbrev s_valid_records : Stmt := topS 81
theorem sc_valid_records : FnScope ["text", "records", "check", "lines", "at", "line", "words", "mark", "number", "record"] ["text"] (defScope s_valid_records) := ⟨rfl, rfl, rfl, by decide +kernel, rfl, by decide +kernel, by decide +kernel⟩
abbrev s_record_of : Stmt := topS 82
theorem sc_record_of : FnScope ["words", "record", "numbers", "word", "length", "width", "shape", "levels", "step", "mark", "bits"] ["words"] (defScope s_record_of) := ⟨rfl, rfl, rfl, by decide +kernel, rfl, by decide +kernel, by decide +kernel⟩
abbrev s_number_of : Stmt := topS 83
theorem sc_number_of : FnScope ["word"] ["word"] (defScope s_number_of) := ⟨rfl, rfl, rfl, by decide +kernel, rfl, by decide +kernel, by decide +kernel⟩
abbrev s_pool : Stmt := topS 85
theorem sc_pool : FnScope ["_law_script", "_law_k", "_law_cell", "_law_great", "_law_seed"] ["_law_script", "_law_k"] (defScope s_pool) := ⟨rfl, rfl, rfl, by decide +kernel, rfl, by decide +kernel, by decide +kernel⟩
abbrev s_take : Stmt := topS 86
theorem sc_take : FnScope ["_law_pool_here", "_law_many", "_law_found"] ["_law_pool_here", "_law_many"] (defScope s_take) := ⟨rfl, rfl, rfl, by decide +kernel, rfl, by decide +kernel, by decide +kernel⟩
abbrev s_same : Stmt := topS 87
theorem sc_same : FnScope ["_law_actual", "_law_due", "_law_one", "_law_other"] ["_law_actual", "_law_due"] (defScope s_same) := ⟨rfl, rfl, rfl, by decide +kernel, rfl, by decide +kernel, by decide +kernel⟩
abbrev s_binary : Stmt := topS 88
theorem sc_binary : FnScope ["_law_u_here", "_law_found"] ["_law_u_here"] (defScope s_binary) := ⟨rfl, rfl, rfl, by decide +kernel, rfl, by decide +kernel, by decide +kernel⟩
abbrev s_l_parameter : Stmt := topS 89
theorem sc_l_parameter : FnScope ["_law_row", "_law_k", "_law_product"] ["_law_row"] (defScope s_l_parameter) := ⟨rfl, rfl, rfl, by decide +kernel, rfl, by decide +kernel, by decide +kernel⟩
abbrev s_code : Stmt := topS 90
theorem sc_code : FnScope ["_law_u_here", "_law_k", "_law_head", "_law_digits", "_law_turn", "_law_padded"] ["_law_u_here", "_law_k"] (defScope s_code) := ⟨rfl, rfl, rfl, by decide +kernel, rfl, by decide +kernel, by decide +kernel⟩
abbrev s_behind : Stmt := topS 91
theorem sc_behind : FnScope ["_law_row", "_law_u_here", "_law_total", "_law_count"] ["_law_row", "_law_u_here"] (defScope s_behind) := ⟨rfl, rfl, rfl, by decide +kernel, rfl, by decide +kernel, by decide +kernel⟩
abbrev s_u : Stmt := topS 92
theorem sc_u : FnScope ["_law_number"] ["_law_number"] (defScope s_u) := ⟨rfl, rfl, rfl, by decide +kernel, rfl, by decide +kernel, by decide +kernel⟩
abbrev s_written : Stmt := topS 93
theorem sc_written : FnScope ["_law_some_here", "_law_first", "_law_start", "_law_found", "_law_current", "_law_at", "_law_number", "_law_which"] ["_law_some_here", "_law_first", "_law_start"] (defScope s_written) := ⟨rfl, rfl, rfl, by decide +kernel, rfl, by decide +kernel, by decide +kernel⟩
abbrev s_mark : Stmt := topS 94
theorem sc_mark : FnScope ["_law_some_here", "_law_found", "_law_number"] ["_law_some_here"] (defScope s_mark) := ⟨rfl, rfl, rfl, by decide +kernel, rfl, by decide +kernel, by decide +kernel⟩
abbrev s_counts : Stmt := topS 95
theorem sc_counts : FnScope ["_law_size", "_law_many", "_law_counts_here", "_law_turn"] ["_law_size", "_law_many"] (defScope s_counts) := ⟨rfl, rfl, rfl, by decide +kernel, rfl, by decide +kernel, by decide +kernel⟩
abbrev s_heads : Stmt := topS 99
theorem sc_heads : FnScope ["_law_pool_here", "_law_many", "_law_sizes", "_law_turn", "_law_long", "_law_found", "_law_left", "_law_at", "_law_size", "_law_most", "_law_width", "_law_joint"] ["_law_pool_here", "_law_many"] (defScope s_heads) := ⟨rfl, rfl, rfl, by decide +kernel, rfl, by decide +kernel, by decide +kernel⟩
abbrev s_some : Stmt := topS 100
theorem sc_some : FnScope ["_law_pool_here", "_law_size", "_law_top", "_law_at"] ["_law_pool_here", "_law_size"] (defScope s_some) := ⟨rfl, rfl, rfl, by decide +kernel, rfl, by decide +kernel, by decide +kernel⟩
abbrev s_frame : Stmt := topS 101
theorem sc_frame : FnScope ["_law_head", "_law_some_here", "_law_start", "_law_first", "_law_text", "_law_behind_here"] ["_law_head", "_law_some_here", "_law_start"] (defScope s_frame) := ⟨rfl, rfl, rfl, by decide +kernel, rfl, by decide +kernel, by decide +kernel⟩
abbrev s_tables : Stmt := topS 102
theorem sc_tables : FnScope ["_law_pool_here", "_law_first"] ["_law_pool_here"] (defScope s_tables) := ⟨rfl, rfl, rfl, by decide +kernel, rfl, by decide +kernel, by decide +kernel⟩
abbrev s_stream : Stmt := topS 103
theorem sc_stream : FnScope ["_law_pool_here", "_law_many", "_law_records", "_law_rows", "_law_kept", "_law_current", "_law_origin", "_law_place", "_law_left", "_law_head", "_law_some_here", "_law_record"] ["_law_pool_here", "_law_many"] (defScope s_stream) := ⟨rfl, rfl, rfl, by decide +kernel, rfl, by decide +kernel, by decide +kernel⟩
abbrev s_check : Stmt := topS 105
theorem sc_check : FnScope ["_law_before", "_law_body_here", "_law_found", "_law_sign"] ["_law_before", "_law_body_here"] (defScope s_check) := ⟨rfl, rfl, rfl, by decide +kernel, rfl, by decide +kernel, by decide +kernel⟩
abbrev s_body : Stmt := topS 106
theorem sc_body : FnScope ["_law_record", "_law_some_here", "_law_one"] ["_law_record"] (defScope s_body) := ⟨rfl, rfl, rfl, by decide +kernel, rfl, by decide +kernel, by decide +kernel⟩
abbrev s_lines : Stmt := topS 107
theorem sc_lines : FnScope ["_law_records", "_law_found", "_law_check_here", "_law_record", "_law_body_here"] ["_law_records"] (defScope s_lines) := ⟨rfl, rfl, rfl, by decide +kernel, rfl, by decide +kernel, by decide +kernel⟩
abbrev s_bad : Stmt := topS 108
theorem sc_bad : FnScope ["_law_found"] [] (defScope s_bad) := ⟨rfl, rfl, rfl, by decide +kernel, rfl, by decide +kernel, by decide +kernel⟩
abbrev s_told : Stmt := topS 109
theorem sc_told : FnScope ["_law_value", "e"] ["_law_value"] (defScope s_told) := ⟨rfl, rfl, rfl, by decide +kernel, rfl, by decide +kernel, by decide +kernel⟩
abbrev s_recovered : Stmt := topS 110
theorem sc_recovered : FnScope ["_law_value", "e"] ["_law_value"] (defScope s_recovered) := ⟨rfl, rfl, rfl, by decide +kernel, rfl, by decide +kernel, by decide +kernel⟩
abbrev s_marked : Stmt := topS 111
theorem sc_marked : FnScope ["_law_pool_here", "_law_body_here", "_law_check_here", "_law_right", "_law_way", "_law_found"] ["_law_pool_here", "_law_body_here", "_law_check_here"] (defScope s_marked) := ⟨rfl, rfl, rfl, by decide +kernel, rfl, by decide +kernel, by decide +kernel⟩
abbrev s_with : Stmt := topS 112
theorem sc_with : FnScope ["_law_lines_here", "_law_check_here", "_law_body_here"] ["_law_lines_here", "_law_check_here", "_law_body_here"] (defScope s_with) := ⟨rfl, rfl, rfl, by decide +kernel, rfl, by decide +kernel, by decide +kernel⟩
abbrev s_sizes_right : Stmt := topS 113
theorem sc_sizes_right : FnScope ["_law_lines_here", "_law_records", "_law_check_here", "_law_many", "_law_text", "_law_figures", "_law_size"] ["_law_lines_here", "_law_records", "_law_check_here"] (defScope s_sizes_right) := ⟨rfl, rfl, rfl, by decide +kernel, rfl, by decide +kernel, by decide +kernel⟩
abbrev s_law : Stmt := topS 114
theorem sc_law : FnScope ["_law_script", "_law_k", "_law_pool_here", "_law_records", "_law_rows", "_law_kept", "_law_lines_here", "_law_check_here", "_law_many", "_law_record", "_law_bad_here", "_law_turn", "_law_body_here", "_law_line", "_law_text", "_law_start", "_law_last", "_law_value"] ["_law_script"] (defScope s_law) := ⟨rfl, rfl, rfl, by decide +kernel, rfl, by decide +kernel, by decide +kernel⟩
abbrev s_Stream___init__ : Stmt := inClass (topS 68) 0
theorem sc_Stream___init__ : FnScope ["self", "records"] ["self", "records"] (defScope s_Stream___init__) := ⟨rfl, rfl, rfl, by decide +kernel, rfl, by decide +kernel, by decide +kernel⟩
abbrev s_init_ParseError : Stmt := inClass (topS 8) 0
theorem sc_init_ParseError : FnScope ["self", "line"] ["self", "line"] (defScope s_init_ParseError) := ⟨rfl, rfl, rfl, by decide +kernel, rfl, by decide +kernel, by decide +kernel⟩
abbrev s_init_InvalidStream : Stmt := inClass (topS 7) 0
theorem sc_init_InvalidStream : FnScope ["self", "index"] ["self", "index"] (defScope s_init_InvalidStream) := ⟨rfl, rfl, rfl, by decide +kernel, rfl, by decide +kernel, by decide +kernel⟩
section
variable {P : Program} {w : World} {K : PySem.W.Frag} {mg : Str → Option Value} {base : Heap}
theorem ok_init_ParseError {f C : Addr} {fd : FuncData} (F : Fun K "__init__" "ParseError.__init__" s_init_ParseError f fd) (T : EC K mg "ParseError" "line" C f) : FnOk P w K mg base CX0 1 f fd ["self", "line"] (spInit K C "line") := by
  refine lt_out ?_
  simp (disch := with_unfolding_all
    refine F.ok sc_init_ParseError (fun vs H Q E h => ?_) (fun cdv A outer s H vs Q E hr h => ?_)
    · obtain ⟨a, v, rfl, _⟩ := h
      rfl
    · obtain ⟨a, v, rfl, ha, q⟩ := h
      exact ⟨_, (pss_one (ps_ost (pv 0) (pv 1))), v, rfl, .ref a, rfl, a, C, rfl, T.o, T.noF, .inl ⟨ha, fun dx n ne => q dx n ne⟩⟩
    ) only [↓lt_eq]
theorem ok_init_InvalidStream {f C : Addr} {fd : FuncData} (F : Fun K "__init__" "InvalidStream.__init__" s_init_InvalidStream f fd) (T : EC K mg "InvalidStream" "index" C f) : FnOk P w K mg base CX0 1 f fd ["self", "index"] (spInit K C "index") := by
  refine lt_out ?_
  simp (disch := with_unfolding_all
    refine F.ok sc_init_InvalidStream (fun vs H Q E h => ?_) (fun cdv A outer s H vs Q E hr h => ?_)
    · obtain ⟨a, v, rfl, _⟩ := h
      rfl
    · obtain ⟨a, v, rfl, ha, q⟩ := h
      exact ⟨_, (pss_one (ps_ost (pv 0) (pv 1))), v, rfl, .ref a, rfl, a, C, rfl, T.o, T.noF, .inl ⟨ha, fun dx n ne => q dx n ne⟩⟩
    ) only [↓lt_eq]
theorem ok_take {f : Addr} {fd : FuncData}     (D : Dn K mg "_law_take" s_take ["_law_pool_here", "_law_many"] f fd) (bi : Bi mg)      : FnOk P w K mg base CX0 1 f fd ["_law_pool_here", "_law_many"] spTake := by
  refine lt_out ?_
  simp (disch := with_unfolding_all
    refine D.F.ok sc_take (fun vs H Q E h => ?_) (fun cdv A outer s H vs Q E hr h => ?_)
    · obtain ⟨p, m, rfl, _⟩ := h
      rfl
    · obtain ⟨p, m, rfl, ⟨x, y, hp, hx, hy0, hy1⟩, hm0, hm1, q⟩ := h
      refine ⟨_, (pss_cons (ps_if (pt_cmpR op_gt (pe_ix ix_list (pv 0) pe_int (fun _ _ => rfl)) pe_int (nomark _))
   (pss_cons (ps_set (i := 2) sc_take.nd rfl (Or.inl rfl) (pe_op op_mod (pe_callTy cInt (by rfl) bi.int_ (by decide +kernel) (pa_cons (pe_ix ix_list (pv 0) pe_int (fun _ _ => rfl)) pa_nil)) (pv 1)))
   (pss_cons (ps_asg (pe_op op_fdiv (pe_callTy cInt (by rfl) bi.int_ (by decide +kernel) (pa_cons (pe_ix ix_list (pv 0) pe_int (fun _ _ => rfl)) pa_nil)) (pv 1)) (pg_sub (pv 0) pe_int set_list))
   (pss_one (ps_ret (pv 2)))))
   pss_nil)
   (pss_cons (ps_asg (pe_op op_mod (pe_callTy cInt (by rfl) bi.int_ (by decide +kernel) (pa_cons (pe_op op_add (pe_op op_mul (pe_ix ix_list (pv 0) pe_int (fun _ _ => rfl)) pe_int) pe_int) pa_nil)) pe_int) (pg_sub (pv 0) pe_int set_list))
   (pss_one (ps_ret (pe_op op_mod (pe_op op_fdiv (pe_op op_mod (pe_callTy cInt (by rfl) bi.int_ (by decide +kernel) (pa_cons (pe_op op_mul (pe_ix ix_list (pv 0) pe_int (fun _ _ => rfl)) (pe_ix ix_list (pv 0) pe_int (fun _ _ => rfl))) pa_nil)) pe_int) pe_int) (pv 1)))))), ?_⟩
      refine rd_start (σ := [some (.ref p), some (.int m), none]) rfl ?_
      walk_at "rd"
      refine rd_iteD (fun c => ?_) (fun c => ?_)
      · walk_at "rd"
        exact q _ _ (Int.emod_nonneg _ (by omega)) (Int.emod_lt_of_pos _ hm0) ⟨x / m, y, upd_same, Int.ediv_nonneg hx (by omega), hy0, hy1⟩ Kp.at
      · have e0 := Int.emod_nonneg (y * 48271 + 11) (show (2147483647 : Int) ≠ 0 by decide)
        have e1 := Int.emod_lt_of_pos (y * 48271 + 11) (show (0 : Int) < 2147483647 by decide)
        walk_at "rd"
        exact q _ _ (Int.emod_nonneg _ (by omega)) (Int.emod_lt_of_pos _ hm0) ⟨x, (y * 48271 + 11) % 2147483647, upd_same, hx, e0, e1⟩ Kp.at
    ) only [↓lt_eq]
theorem ok_pool {f : Addr} {fd : FuncData}     (D : Dn K mg "_law_pool" s_pool ["_law_script", "_law_k"] f fd) (bi : Bi mg)      : FnOk P w K mg base CX0 1 f fd ["_law_script", "_law_k"] (spPool K) := by
  refine lt_out ?_
  simp (disch := with_unfolding_all
    refine D.F.ok sc_pool (fun vs H Q E h => ?_) (fun cdv A outer s H vs Q E hr h => ?_)
    · obtain ⟨a, ns, k, rfl, _⟩ := h
      rfl
    · obtain ⟨a, ns, k, rfl, hS, hl, hk0, hk1, q⟩ := h
      refine ⟨_, (pss_cons (ps_set (i := 2) sc_pool.nd rfl (Or.inl rfl) pe_int)
   (pss_cons (ps_if (pt_cmpR op_lt (pv 1) (pe_callB cLen (by rfl) bi.len_ (by decide +kernel) (pa_cons (pv 0) pa_nil)) (nomark _))
   (pss_one (ps_set (i := 2) sc_pool.nd rfl (Or.inl rfl) (pe_callTy cInt (by rfl) bi.int_ (by decide +kernel) (pa_cons (pe_ix ix_list (pv 0) (pv 1) (fun _ _ => rfl)) pa_nil))))
   pss_nil)
   (pss_cons (ps_set (i := 3) sc_pool.nd rfl (Or.inl rfl) (pe_callB cAbs (by rfl) bi.abs_ (by decide +kernel) (pa_cons (pv 2) pa_nil)))
   (pss_cons (ps_set (i := 4) sc_pool.nd rfl (Or.inl rfl) (pe_op op_add (pe_op op_add (pe_op op_mod (pe_callTy cInt (by rfl) bi.int_ (by decide +kernel) (pa_cons (pv 2) pa_nil)) pe_int) (pe_op op_mul pe_int (pv 1))) pe_int))
   (pss_one (ps_ret (pe_lst (pa_cons (pe_op op_mul (pv 3) (pe_callTy cInt (by rfl) bi.int_ (by decide +kernel) (pa_cons (pe_cmpR op_ge (pv 3) (pe_op op_pow pe_int pe_int) (nomark _)) pa_nil))) (pa_cons (pe_op op_mod (pe_callTy cInt (by rfl) bi.int_ (by decide +kernel) (pa_cons (pe_op op_add (pe_op op_mul (pe_op op_mul (pv 4) (pv 4)) (pv 4)) (pe_op op_mul pe_int (pv 1))) pa_nil)) pe_int) pa_nil))))))))), ?_⟩
      refine rd_start (σ := [some (.ref a), some (.int k), none, none, none]) rfl ?_
      have hS' : SqL (cxOf CX0 P w K mg base ["_law_script", "_law_k", "_law_cell", "_law_great", "_law_seed"] "_law_pool" (defScope s_pool) f cdv A outer s H E).nox.K H a (ns.map V.int) := hS
      walk_at "rd"
      refine rd_iteD (fun c => ?_) (fun c => ?_)
      · rw [List.length_map] at c
        obtain ⟨j, rfl⟩ : ∃ j : Nat, k = (j : Int) := ⟨k.toNat, by omega⟩
        have hj : j < ns.length := by omega
        have hat : atI (ns.map V.int) (j : Int) = some (.int ns[j]) := atI_nat (by rw [List.getElem?_map, List.getElem?_eq_getElem hj]; rfl)
        have e0 := Int.emod_nonneg ns[j] (show (2147483629 : Int) ≠ 0 by decide)
        have e1 := Int.emod_lt_of_pos ns[j] (show (0 : Int) < 2147483629 by decide)
        walk_at "rd"
        rename_i p hp
        exact q _ _ hp (same_new hp) ⟨_, _, upd_same, great_nn _ _, Int.emod_nonneg _ (by decide), Int.emod_lt_of_pos _ (by decide)⟩
      · walk_at "rd"
        rename_i p hp
        exact q _ _ hp (same_new hp) ⟨_, _, upd_same, great_nn 0 _, Int.emod_nonneg _ (by decide), Int.emod_lt_of_pos _ (by decide)⟩
    ) only [↓lt_eq]
theorem ok_binary {f : Addr} {fd : FuncData}     (D : Dn K mg "_law_binary" s_binary ["_law_u_here"] f fd) (bi : Bi mg)      : FnOk P w K mg base CX0 1 f fd ["_law_u_here"] spBinary := by
  refine lt_out ?_
  simp (disch := with_unfolding_all
    refine D.F.ok sc_binary (fun vs H Q E h => ?_) (fun cdv A outer s H vs Q E hr h => ?_)
    · obtain ⟨u, rfl, _⟩ := h
      rfl
    · obtain ⟨u, rfl, hu, q⟩ := h
      refine ⟨_, (pss_cons (ps_set (i := 1) sc_binary.nd rfl (Or.inl rfl) pe_str)
   (pss_cons (ps_while PassesOwn.never (pt_cmpR op_gt (pv 0) pe_int (nomark _))
   (pss_cons (ps_set (i := 1) sc_binary.nd rfl (Or.inl rfl) (pe_op op_addT (pe_ix ix_str pe_str (pe_op op_mod (pe_callTy cInt (by rfl) bi.int_ (by decide +kernel) (pa_cons (pv 0) pa_nil)) pe_int) (fun _ _ => rfl)) (pv 1)))
   (pss_one (ps_set (i := 0) sc_binary.nd rfl (Or.inl rfl) (pe_op op_fdiv (pv 0) pe_int)))))
   (pss_one (ps_ret (pv 1))))), ?_⟩
      refine rd_start (σ := [some (.int (u : Int)), none]) rfl ?_
      walk_at "rd"
      refine while_n (fun i σ H' => σ = [some (.int ((u / 2 ^ i : Nat) : Int)), some (.str (SX.S (lowB u i)))] ∧ H' = H) (if u = 0 then 0 else nb u) ⟨by rw [Nat.pow_zero, Nat.div_one]; rfl, rfl⟩ (fun i σ H' hi hI => ?_)
      obtain ⟨rfl, rfl⟩ := hI
      walk_at "rd"
      have hii : i ≤ nb u := by split at hi <;> omega
      refine rd_iteD (fun c => ?_) (fun c => ?_)
      · refine while_in ?_ ?_
        · have c' : 0 < u / 2 ^ i := by omega
          by_cases z : u = 0
          · subst z
            rw [Nat.zero_div] at c'
            omega
          · rw [if_neg z] at hi ⊢
            by_cases e : i = nb u
            · subst e
              rw [Nat.div_eq_of_lt (nb_lt u)] at c'
              omega
            · omega
        · walk_at "rd"
          refine ⟨?_, rfl⟩
          rw [half_nat, Nat.div_div_eq_div_mul, ← Nat.pow_succ, lowB_front]
          rfl
      · walk_at "rd"
        have c' : ¬ 0 < u / 2 ^ i := fun z => c (by omega)
        have hlt : u < 2 ^ i := by
          rcases Nat.lt_or_ge u (2 ^ i) with z | z
          · exact z
          · exact absurd (Nat.div_pos z (Nat.two_pow_pos i)) c'
        by_cases z : u = 0
        · rw [if_pos z] at hi q
          obtain rfl : i = 0 := by omega
          exact q
        · rw [if_neg z] at hi q
          have hi1 : 1 ≤ i := by
            rcases i with _ | i
            · have : (2 : Nat) ^ 0 = 1 := rfl
              omega
            · omega
          have e := nb_min hlt hi1
          obtain rfl : i = nb u := by omega
          exact q
    ) only [↓lt_eq]
theorem ok_l_parameter {f : Addr} {fd : FuncData}     (D : Dn K mg "_law_parameter" s_l_parameter ["_law_row"] f fd) (bi : Bi mg)      : FnOk P w K mg base CX0 1 f fd ["_law_row"] (spParG K) := by
  refine lt_out ?_
  simp (disch := with_unfolding_all
    refine D.F.ok sc_l_parameter (fun vs H Q E h => ?_) (fun cdv A outer s H vs Q E hr h => ?_)
    · obtain ⟨a, t, m, rfl, _⟩ := h
      rfl
    · obtain ⟨a, t, m, rfl, h1, ok, q⟩ := h
      have L1 := h1.1
      refine ⟨_, (pss_cons (ps_par (i := 1) (j := 2) rfl sc_l_parameter.nd rfl rfl (by decide) rfl rfl (pa_cons pe_int (pa_cons (pe_ix ix_tup (pv 0) pe_int (fun _ _ => rfl)) pa_nil)) rfl)
   (pss_cons (ps_while PassesOwn.never (pt_cmpR op_lt (pv 2) (pe_ix ix_tup (pv 0) pe_int (fun _ _ => rfl)) (nomark _))
   (pss_cons (ps_set (i := 2) sc_l_parameter.nd rfl (Or.inl rfl) (pe_op op_mul (pv 2) pe_int))
   (pss_one (ps_set (i := 1) sc_l_parameter.nd rfl (Or.inl rfl) (pe_op op_add (pv 1) pe_int)))))
   (pss_one (ps_ret (pv 1))))), ?_⟩
      refine rd_start (σ := [some (.ref a), none, none]) rfl ?_
      walk_at "rd"
      refine while_n (fun i σ H' => σ = [some (.ref a), some (.int ((i : Nat) : Int)), some (.int (t.2 * 2 ^ i))] ∧ H' = H) (par t.1 t.2) ⟨by rw [Int.pow_zero, Int.mul_one]; rfl, rfl⟩ (fun i σ H' hi hI => ?_)
      obtain ⟨rfl, rfl⟩ := hI
      walk_at "rd"
      refine rd_iteD (fun c => ?_) (fun c => ?_)
      · refine while_in ((par_cond ok hi).mp c) ?_
        walk_at "rd"
        refine ⟨?_, rfl⟩
        rw [Int.pow_succ, ← Int.mul_assoc]
        rfl
      · have e : i = par t.1 t.2 := by
          have z : ¬ i < par t.1 t.2 := fun z => c ((par_cond ok hi).mpr z)
          omega
        subst e
        walk_at "rd"
        exact q
    ) only [↓lt_eq]
theorem ok_code {f : Addr} {fd : FuncData} {f_binary : Addr} {fd_binary : FuncData}    (D : Dn K mg "_law_code" s_code ["_law_u_here", "_law_k"] f fd) (bi : Bi mg) (G_binary : FnOk P w K mg base CX0 1 f_binary fd_binary ["_law_u_here"] spBinary) (D_binary : Dn K mg "_law_binary" s_binary ["_law_u_here"] f_binary fd_binary)     : FnOk P w K mg base CX0 2 f fd ["_law_u_here", "_law_k"] spBits := by
  refine lt_out ?_
  simp (disch := with_unfolding_all
    refine D.F.ok sc_code (fun vs H Q E h => ?_) (fun cdv A outer s H vs Q E hr h => ?_)
    · obtain ⟨u, k, rfl, _⟩ := h
      rfl
    · obtain ⟨u, k, rfl, hk, hu, q⟩ := h
      refine ⟨_, (pss_cons (ps_par (i := 2) (j := 3) rfl sc_code.nd rfl rfl (by decide) rfl rfl (pa_cons (pv 0) (pa_cons (pe_call G_binary (hr.mono (by first | decide | exact Nat.le_refl _)) (by rfl) D_binary.g D_binary.F.kp D_binary.b .nil pass0 (pa_cons (pv 0) pa_nil)) pa_nil)) rfl)
   (pss_cons (ps_for PassesOwn.never rfl (pi_range1 (by rfl) bi.range_ (pa_cons (pv 1) pa_nil)) (pg_name (i := 4) sc_code.nd rfl (Or.inl rfl))
   (pss_one (ps_set (i := 2) sc_code.nd rfl (Or.inl rfl) (pe_op op_fdiv (pv 2) pe_int))))
   (pss_cons (ps_if (pt_cmpR op_lt (pv 2) pe_int (nomark _))
   (pss_cons (ps_set (i := 5) sc_code.nd rfl (Or.inl rfl) (pe_op op_addT (pe_op op_mulT pe_str (pv 1)) (pv 3)))
   (pss_one (ps_ret (pe_op op_addT (pe_op op_addT (pe_op op_mulT pe_str (pv 2)) pe_str) (pe_slice C8.sl_txt (pv 5) (po_some (pe_op op_sub (pe_callB cLen (by rfl) bi.len_ (by decide +kernel) (pa_cons (pv 5) pa_nil)) (pv 1))) po_none)))))
   pss_nil)
   (pss_one (ps_ret (pe_op op_addT (pe_op op_addT (pe_op op_mulT pe_str (pe_op op_add pe_int (pe_callB cLen (by rfl) bi.len_ (by decide +kernel) (pa_cons (pv 3) pa_nil)))) pe_str) (pv 3))))))), ?_⟩
      refine rd_start (σ := [some (.int (u : Int)), some (.int (k : Int)), none, none, none, none]) rfl ?_
      walk_at "rd"
      refine use_binary hu ?_
      have hdg : ∃ j, j ≤ nb u ∧ u < 2 ^ j ∧ (if u = 0 then [] else binB u) = lowB u j := by
        by_cases z : u = 0
        · refine ⟨0, Nat.zero_le _, ?_, ?_⟩
          · rw [z]; decide
          · rw [if_pos z]; rfl
        · exact ⟨nb u, Nat.le_refl _, nb_lt u, if_neg z⟩
      have hbig : ¬ u / 2 ^ k < 20 → (if u = 0 then [] else binB u) = binB u := fun z => if_neg (fun e => z (by rw [e, Nat.zero_div]; decide))
      generalize (if u = 0 then [] else binB u) = dg at hdg hbig ⊢
      obtain ⟨j, hj, hlt, ej⟩ := hdg
      have hdl : dg.length = j := by rw [ej, lowB_length]
      walk_at "rd"
      refine for_range (lo := 0) (n := ((k : Nat) : Int).toNat) (fun i σ H' => ∃ x4, σ = [some (.int (u : Int)), some (.int (k : Int)), some (.int ((u / 2 ^ i : Nat) : Int)), some (.str (SX.S dg)), x4, none] ∧ H' = H) ⟨none, by rw [Nat.pow_zero, Nat.div_one]; rfl, rfl⟩ (fun i σ H' hi hI => ?_) (fun σ H' hI => ?_)
      · obtain ⟨x4, rfl, rfl⟩ := hI
        walk_at "rd"
        refine ⟨some (.int (0 + (i : Int))), ?_, rfl⟩
        rw [half_nat, Nat.div_div_eq_div_mul, ← Nat.pow_succ]
        rfl
      · obtain ⟨x4, rfl, rfl⟩ := hI
        rw [Int.toNat_natCast]
        walk_at "rd"
        refine rd_iteD (fun c => ?_) (fun c => ?_)
        · have c2 : u / 2 ^ k < 20 := Int.ofNat_lt.mp c
          have e : encB u k = List.replicate (u / 2 ^ k) 49 ++ [48] ++ lowB u k := if_pos c2
          rw [e] at q
          clear c e hbig
          generalize u / 2 ^ k = g at c2 q ⊢
          walk_at "rd"
          have hd := low_fill2 u k j hlt
          rw [← ej] at hd
          have hl2 : (List.replicate k 48 ++ dg).length = k + j := by rw [List.length_append, List.length_replicate, hdl]
          generalize List.replicate k 48 ++ dg = P at hd hl2 ⊢
          walk_at "rd"
          rw [show ((P.length : Nat) : Int) - (k : Int) = ((P.length - k : Nat) : Int) by omega]
          walk_at "rd"
          rw [hd]
          exact q
        · have c2 : ¬ u / 2 ^ k < 20 := fun z => c (Int.ofNat_lt.mpr z)
          have e : encB u k = List.replicate (19 + nb u) 49 ++ [48] ++ binB u := if_neg c2
          rw [e] at q
          have eb2 := hbig c2
          subst eb2
          have hbl := binB_length u
          walk_at "rd"
          rw [hbl, show (19 : Int) + (nb u : Nat) = ((19 + nb u : Nat) : Int) by omega]
          walk_at "rd"
          exact q
    ) only [↓lt_eq]
theorem ok_behind {f : Addr} {fd : FuncData}     (D : Dn K mg "_law_behind" s_behind ["_law_row", "_law_u_here"] f fd) (bi : Bi mg)      : FnOk P w K mg base CX0 1 f fd ["_law_row", "_law_u_here"] (spBehind K) := by
  refine lt_out ?_
  simp (disch := with_unfolding_all
    refine D.F.ok sc_behind (fun vs H Q E h => ?_) (fun cdv A outer s H vs Q E hr h => ?_)
    · obtain ⟨a, t, m, u, rfl, _⟩ := h
      rfl
    · obtain ⟨a, t, m, u, rfl, h1, ok, q⟩ := h
      have L1 := h1.1
      obtain ⟨o1, o2, o3, o4⟩ := ok
      refine ⟨_, (pss_cons (ps_par (i := 2) (j := 3) rfl sc_behind.nd rfl rfl (by decide) rfl rfl (pa_cons (pe_op op_add (pe_ix ix_tup (pv 0) pe_int (fun _ _ => rfl)) (pv 1)) (pa_cons (pe_op op_add (pe_ix ix_tup (pv 0) pe_int (fun _ _ => rfl)) pe_int) pa_nil)) rfl)
   (pss_one (ps_ret (pe_ifExp (pt_cmpR op_eq (pv 3) pe_int (nomark _)) (pe_tup (pa_cons (pe_op op_fdiv (pv 2) pe_int) (pa_cons pe_int pa_nil))) (pe_tup (pa_cons (pv 2) (pa_cons (pv 3) pa_nil))))))), ?_⟩
      refine rd_start (σ := [some (.ref a), some (.int (u : Int)), none, none]) rfl ?_
      walk_at "rd"
      refine rd_iteD (fun c => ?_) (fun c => ?_)
      · walk_at "rd"
        rename_i p hp
        have e : tbB t u = ((t.1 + (u : Int)) / 2, 8) := if_pos (by have := V.int.inj c; omega)
        rw [e] at q
        exact q p hp
      · walk_at "rd"
        rename_i p hp
        have e : tbB t u = (t.1 + (u : Int), t.2 + 1) := if_neg (fun z => c (congrArg V.int (by omega)))
        rw [e] at q
        exact q p hp
    ) only [↓lt_eq]
theorem ok_u {f : Addr} {fd : FuncData}     (D : Dn K mg "_law_u" s_u ["_law_number"] f fd) (bi : Bi mg)      : FnOk P w K mg base CX0 1 f fd ["_law_number"] spCode := by
  refine lt_out ?_
  simp (disch := with_unfolding_all
    refine D.F.ok sc_u (fun vs H Q E h => ?_) (fun cdv A outer s H vs Q E hr h => ?_)
    · obtain ⟨n, rfl, _⟩ := h
      rfl
    · obtain ⟨n, rfl, q⟩ := h
      refine ⟨_, (pss_one (ps_ret (pe_ifExp (pt_cmpR op_ge (pv 0) pe_int (nomark _)) (pe_op op_mul pe_int (pv 0)) (pe_op op_sub (pe_op op_mul (pe_un un_neg pe_int) (pv 0)) pe_int)))), ?_⟩
      refine rd_start (σ := [some (.int n)]) rfl ?_
      walk_at "rd"
      refine rd_iteD (fun c => ?_) (fun c => ?_)
      · walk_at "rd"
        have e : codeU n = 2 * n := if_pos c
        rw [e] at q
        exact q
      · walk_at "rd"
        have e : codeU n = -2 * n - 1 := if_neg c
        rw [e] at q
        exact q
    ) only [↓lt_eq]
theorem ok_written {f : Addr} {fd : FuncData} {f_code : Addr} {fd_code : FuncData} {f_u : Addr} {fd_u : FuncData} {f_l_parameter : Addr} {fd_l_parameter : FuncData} {f_behind : Addr} {fd_behind : FuncData}    (D : Dn K mg "_law_written" s_written ["_law_some_here", "_law_first", "_law_start"] f fd) (bi : Bi mg) (G_code : FnOk P w K mg base CX0 2 f_code fd_code ["_law_u_here", "_law_k"] spBits) (D_code : Dn K mg "_law_code" s_code ["_law_u_here", "_law_k"] f_code fd_code) (G_u : FnOk P w K mg base CX0 1 f_u fd_u ["_law_number"] spCode) (D_u : Dn K mg "_law_u" s_u ["_law_number"] f_u fd_u) (G_l_parameter : FnOk P w K mg base CX0 1 f_l_parameter fd_l_parameter ["_law_row"] (spParG K)) (D_l_parameter : Dn K mg "_law_parameter" s_l_parameter ["_law_row"] f_l_parameter fd_l_parameter) (G_behind : FnOk P w K mg base CX0 1 f_behind fd_behind ["_law_row", "_law_u_here"] (spBehind K)) (D_behind : Dn K mg "_law_behind" s_behind ["_law_row", "_law_u_here"] f_behind fd_behind)     : FnOk P w K mg base CX0 3 f fd ["_law_some_here", "_law_first", "_law_start"] (spWr K) := by
  refine lt_out ?_
  simp (disch := with_unfolding_all
    refine D.F.ok sc_written (fun vs H Q E h => ?_) (fun cdv A outer s H vs Q E hr h => ?_)
    · obtain ⟨a, ns, first, b, T, rfl, _⟩ := h
      rfl
    · obtain ⟨a, ns, first, b, T, rfl, e1, hl, hf, hn, hT, o1, o2, q⟩ := h
      refine ⟨_, (pss_cons (ps_par (i := 3) (j := 4) rfl sc_written.nd rfl rfl (by decide) rfl rfl (pa_cons (pe_lst pa_nil) (pa_cons (pe_callTy cList (by rfl) bi.list_ (by decide +kernel) (pa_cons (pv 2) pa_nil)) pa_nil)) rfl)
   (pss_cons (ps_for PassesOwn.never rfl (pi_enum (by rfl) bi.enumerate_ (pa_cons (pv 0) pa_nil)) (pg_tup rfl (pgs_cons (pg_name (i := 5) sc_written.nd rfl (Or.inl rfl)) (pgs_cons (pg_name (i := 6) sc_written.nd rfl (Or.inl rfl)) pgs_nil)))
   (pss_cons (ps_set (i := 7) sc_written.nd rfl (Or.inl rfl) (pe_callTy cInt (by rfl) bi.int_ (by decide +kernel) (pa_cons (pe_cmpR op_ge (pv 5) (pv 1) (nomark _)) pa_nil)))
   (pss_cons (ps_expr (pe_bm PySem.F.plainAttrs_list PySem.F.slot_list_append PySem.F.type_list_append mt_append (pv 3) (pa_cons (pe_call G_code (hr.mono (by first | decide | exact Nat.le_refl _)) (by rfl) D_code.g D_code.F.kp D_code.b .nil pass0 (pa_cons (pe_call G_u (hr.mono (by first | decide | exact Nat.le_refl _)) (by rfl) D_u.g D_u.F.kp D_u.b .nil pass0 (pa_cons (pv 6) pa_nil)) (pa_cons (pe_call G_l_parameter (hr.mono (by first | decide | exact Nat.le_refl _)) (by rfl) D_l_parameter.g D_l_parameter.F.kp D_l_parameter.b .nil pass0 (pa_cons (pe_ix ix_list (pv 4) (pv 7) (fun _ _ => rfl)) pa_nil)) pa_nil))) pa_nil)))
   (pss_one (ps_asg (pe_call G_behind (hr.mono (by first | decide | exact Nat.le_refl _)) (by rfl) D_behind.g D_behind.F.kp D_behind.b .nil pass0 (pa_cons (pe_ix ix_list (pv 4) (pv 7) (fun _ _ => rfl)) (pa_cons (pe_call G_u (hr.mono (by first | decide | exact Nat.le_refl _)) (by rfl) D_u.g D_u.F.kp D_u.b .nil pass0 (pa_cons (pv 6) pa_nil)) pa_nil))) (pg_sub (pv 4) (pv 7) set_list))))))
   (pss_one (ps_ret (pe_tup (pa_cons (pe_bm PySem.F.plainAttrs_str PySem.F.slot_str_join PySem.F.type_str_join mt_joinK pe_str (pa_cons (pv 3) pa_nil)) (pa_cons (pe_callTy cTuple (by rfl) bi.tuple_ (by decide +kernel) (pa_cons (pv 4) pa_nil)) pa_nil))))))), ?_⟩
      refine rd_start (σ := [some (.ref a), some (.int (first : Int)), some (.ref b), none, none, none, none, none]) rfl ?_
      obtain ⟨r0, r1, h0, h1, h2⟩ := hT
      walk_at "rd"
      rename_i w hw
      refine rd_listQ (LK.seqT (.new hw) h0.1) fun p hp => ?_
      walk_at "rd"
      have hs2 : Same H (upd (upd H w (.lst [])) p (.lst [.ref r0, .ref r1])) := (same_new hw).trans (same_new hp)
      have hwn : H w = none := hw
      have hpn : H p = none := (same_new hw).free hp
      have hwp : w ≠ p := ne_of_none upd_same hp
      have hpw := hwp.symm
      refine rd_lpE (SqL.of (hs2 _ _ e1)) ?_
      refine for_enum (xs := ns.map V.int) (fun i σ H' => ∃ r0 r1 x5 x6 x7, σ = [some (.ref a), some (.int (first : Int)), some (.ref b), some (.ref w), some (.ref p), x5, x6, x7] ∧ H' p = some (.lst [.ref r0, .ref r1]) ∧ H' w = some (.lst ((wst ns first T i).1.map fun l => V.str (SX.S l))) ∧ TbV K H' r0 (wst ns first T i).2.1 ∧ TbV K H' r1 (wst ns first T i).2.2 ∧ Same H H') ⟨r0, r1, none, none, none, rfl, upd_same, look_new hp upd_same, (h1.lk (.new hw)).lk (.new hp), (h2.lk (.new hw)).lk (.new hp), hs2⟩ (fun i σ H' _ hI => ?_) (fun i v σ H' t hv hI ht => ?_) (fun σ H' hI => ?_)
      · obtain ⟨r0, r1, x5, x6, x7, rfl, h3, h3w, h4, h5, hs⟩ := hI
        exact SqL.of (hs _ _ e1)
      · obtain ⟨r0, r1, x5, x6, x7, rfl, h3, h3w, h4, h5, hs⟩ := hI
        have hil : i < ns.length := by
          have z := (List.getElem?_eq_some_iff.mp hv).1
          rw [List.length_map] at z
          exact z
        obtain ⟨z, rfl, hz⟩ : ∃ z, v = .int z ∧ ns.getD i 0 = z := by
          rw [List.getElem?_map] at hv
          cases g : ns[i]? with
          | none => rw [g] at hv; cases hv
          | some z => rw [g] at hv; exact ⟨z, (Option.some.inj hv).symm, getD_some g⟩
        obtain ⟨k1, k2⟩ := wst_ok (first := first) hn o1 o2 i (by omega)
        have bnd : (10 ^ 58 + (i : Int) * 10 ^ 56) < 10 ^ 60 := by omega
        have hu := nb_small (uOf_getD hn i)
        rw [hz] at hu
        have hwl := wst_len ns first T i
        have t4 : TbV K (upd H' t (.tup [.int (i : Nat), .int z])) r0 (wst ns first T i).2.1 := h4.lk (.new ht)
        have t5 : TbV K (upd H' t (.tup [.int (i : Nat), .int z])) r1 (wst ns first T i).2.2 := h5.lk (.new ht)
        have u3 := look_new (o := .tup [.int (i : Nat), .int z]) ht h3
        have u3w := look_new (o := .tup [.int (i : Nat), .int z]) ht h3w
        have hst : Same H (upd H' t (.tup [.int (i : Nat), .int z])) := hs.trans (same_new ht)
        have utt : upd H' t (.tup [.int (i : Nat), .int z]) t = some (.tup [.int (i : Nat), .int z]) := upd_same
        generalize upd H' t (.tup [.int (i : Nat), .int z]) = Ht at t4 t5 u3 u3w hst utt ⊢
        walk_at "rd"
        by_cases c : i < first
        · rw [show (if decide ((i : Int) ≥ (first : Int)) = true then (1 : Int) else 0) = 0 from by rw [decide_eq_false (by omega)]; rfl]
          walk_at "rd"
          rw [← uOf_eq]
          refine use_parG t4 k1 ?_
          walk_at "rd"
          refine use_bits (by have := par_leG k1 bnd; omega) (by omega) ?_
          walk_at "rd"
          refine rd_appG u3w (by rw [List.length_map]; omega) ?_
          have v3 := look_upd (o := .lst ((wst ns first T i).1.map (fun l => V.str (SX.S l)) ++ [.str (SX.S (encB (uOf z) (par (wst ns first T i).2.1.1 (wst ns first T i).2.1.2)))])) hpw u3
          have v4 := TbV.lk (LK.at (o := .lst ((wst ns first T i).1.map (fun l => V.str (SX.S l)) ++ [.str (SX.S (encB (uOf z) (par (wst ns first T i).2.1.1 (wst ns first T i).2.1.2)))])) u3w) t4
          have v5 := TbV.lk (LK.at (o := .lst ((wst ns first T i).1.map (fun l => V.str (SX.S l)) ++ [.str (SX.S (encB (uOf z) (par (wst ns first T i).2.1.1 (wst ns first T i).2.1.2)))])) u3w) t5
          walk_at "rd"
          rw [← uOf_eq]
          refine use_behind v4 k1 fun p2 hp2 => ?_
          walk_at "rd"
          have n2p : p2 ≠ p := (ne_of_none v3 hp2).symm
          rw [wst_lo c]
          refine ⟨p2, r1, _, _, _, rfl, upd_same, ?_, ?_, ?_, ?_⟩
          · rw [upd_ne hwp, upd_ne (ne_of_none upd_same hp2), upd_same, List.map_append, hz]
            rfl
          · exact TbV.lk (LK.at (look_new hp2 v3)) (by rw [hz]; exact TbV.of upd_same)
          · exact TbV.lk (LK.at (look_new hp2 v3)) (TbV.lk (LK.new hp2) v5)
          · intro b2 x e
            rw [upd_ne (ne_of_none e hpn)]
            refine look_new hp2 ?_
            rw [upd_ne (ne_of_none e hwn)]
            exact hst _ _ e

        · rw [show (if decide ((i : Int) ≥ (first : Int)) = true then (1 : Int) else 0) = 1 from by rw [decide_eq_true (by omega)]; rfl]
          walk_at "rd"
          rw [← uOf_eq]
          refine use_parG t5 k2 ?_
          walk_at "rd"
          refine use_bits (by have := par_leG k2 bnd; omega) (by omega) ?_
          walk_at "rd"
          refine rd_appG u3w (by rw [List.length_map]; omega) ?_
          have v3 := look_upd (o := .lst ((wst ns first T i).1.map (fun l => V.str (SX.S l)) ++ [.str (SX.S (encB (uOf z) (par (wst ns first T i).2.2.1 (wst ns first T i).2.2.2)))])) hpw u3
          have v4 := TbV.lk (LK.at (o := .lst ((wst ns first T i).1.map (fun l => V.str (SX.S l)) ++ [.str (SX.S (encB (uOf z) (par (wst ns first T i).2.2.1 (wst ns first T i).2.2.2)))])) u3w) t4
          have v5 := TbV.lk (LK.at (o := .lst ((wst ns first T i).1.map (fun l => V.str (SX.S l)) ++ [.str (SX.S (encB (uOf z) (par (wst ns first T i).2.2.1 (wst ns first T i).2.2.2)))])) u3w) t5
          walk_at "rd"
          rw [← uOf_eq]
          refine use_behind v5 k2 fun p2 hp2 => ?_
          walk_at "rd"
          have n2p : p2 ≠ p := (ne_of_none v3 hp2).symm
          rw [wst_hi c]
          refine ⟨r0, p2, _, _, _, rfl, upd_same, ?_, ?_, ?_, ?_⟩
          · rw [upd_ne hwp, upd_ne (ne_of_none upd_same hp2), upd_same, List.map_append, hz]
            rfl
          · exact TbV.lk (LK.at (look_new hp2 v3)) (TbV.lk (LK.new hp2) v4)
          · exact TbV.lk (LK.at (look_new hp2 v3)) (by rw [hz]; exact TbV.of upd_same)
          · intro b2 x e
            rw [upd_ne (ne_of_none e hpn)]
            refine look_new hp2 ?_
            rw [upd_ne (ne_of_none e hwn)]
            exact hst _ _ e

      · obtain ⟨r0, r1, x5, x6, x7, rfl, h3, h3w, h4, h5, hs⟩ := hI
        rw [List.length_map] at h3w h4 h5
        have hfl := wst_flat (first := first) hn o1 o2 ns.length hl
        have hfl2 : (wst ns first T ns.length).1.flatten.length ≤ 16777216 := by omega
        walk_at "rd"
        rename_i q1 hq1 p1 hp1
        refine q p1 q1 _ ((hs.trans (same_new hq1)).trans (same_new hp1)) ((hs.trans (same_new hq1)).free hp1) upd_same ⟨r0, r1, .of (look_new hp1 upd_same), (h4.lk (.new hq1)).lk (.new hp1), (h5.lk (.new hq1)).lk (.new hp1)⟩
    ) only [↓lt_eq]
theorem ok_mark {f : Addr} {fd : FuncData} {f_u : Addr} {fd_u : FuncData}    (D : Dn K mg "_law_mark" s_mark ["_law_some_here"] f fd) (bi : Bi mg) (G_u : FnOk P w K mg base CX0 1 f_u fd_u ["_law_number"] spCode) (D_u : Dn K mg "_law_u" s_u ["_law_number"] f_u fd_u)     : FnOk P w K mg base CX0 2 f fd ["_law_some_here"] spMark := by
  refine lt_out ?_
  simp (disch := with_unfolding_all
    refine D.F.ok sc_mark (fun vs H Q E h => ?_) (fun cdv A outer s H vs Q E hr h => ?_)
    · obtain ⟨a, ns, rfl, _⟩ := h
      rfl
    · obtain ⟨a, ns, rfl, hS, hl, q⟩ := h
      refine ⟨_, (pss_cons (ps_set (i := 1) sc_mark.nd rfl (Or.inl rfl) pe_int)
   (pss_cons (ps_for PassesOwn.never rfl (pi_list (pv 0)) (pg_name (i := 2) sc_mark.nd rfl (Or.inl rfl))
   (pss_one (ps_set (i := 1) sc_mark.nd rfl (Or.inl rfl) (pe_op op_mod (pe_callTy cInt (by rfl) bi.int_ (by decide +kernel) (pa_cons (pe_op op_add (pe_op op_mul (pv 1) pe_int) (pe_call G_u (hr.mono (by first | decide | exact Nat.le_refl _)) (by rfl) D_u.g D_u.F.kp D_u.b .nil pass0 (pa_cons (pv 2) pa_nil))) pa_nil)) pe_int))))
   (pss_one (ps_ret (pv 1))))), ?_⟩
      refine rd_start (σ := [some (.ref a), none, none]) rfl ?_
      walk_at "rd"
      refine' rd_lpL (xs := ns.map V.int) ?k1 ?_
      (case k1 => exact SqL.of (by walk_at "hg"))
      refine for_list (xs := ns.map V.int) (fun i σ H' => ∃ t, σ = [some (.ref a), some (.int (markF (ns.take i))), t] ∧ Same H H') ⟨none, rfl, by walk_at "sm"⟩ (fun i σ H1 _ hI => ?_) (fun i v σ H1 hv hI => ?_) (fun σ H1 hI => ?_)
      · obtain ⟨t, rfl, hs⟩ := hI
        exact hs.seq (SqL.of hS)
      · obtain ⟨t, rfl, hs⟩ := hI
        obtain ⟨z, rfl, hz⟩ : ∃ z, v = .int z ∧ ns[i]? = some z := by
          rw [List.getElem?_map] at hv
          cases g : ns[i]? with
          | none => rw [g] at hv; cases hv
          | some z => rw [g] at hv; exact ⟨z, (Option.some.inj hv).symm, rfl⟩
        have hb := markF_bound (ns.take i)
        walk_at "rd"
        refine ⟨some (.int z), ?_, hs⟩
        rw [show ns.take (i + 1) = ns.take i ++ [z] by rw [List.take_add_one, hz]; rfl, markF_snoc]
        rfl
      · obtain ⟨t, rfl, hs⟩ := hI
        walk_at "rd"
        rw [List.take_of_length_le (by rw [List.length_map]; exact Nat.le_refl _)]
        exact q _ hs
    ) only [↓lt_eq]
theorem ok_counts {f : Addr} {fd : FuncData}     (D : Dn K mg "_law_counts" s_counts ["_law_size", "_law_many"] f fd) (bi : Bi mg)      : FnOk P w K mg base CX0 1 f fd ["_law_size", "_law_many"] spCounts := by
  refine lt_out ?_
  simp (disch := with_unfolding_all
    refine D.F.ok sc_counts (fun vs H Q E h => ?_) (fun cdv A outer s H vs Q E hr h => ?_)
    · obtain ⟨n, k, rfl, _⟩ := h
      rfl
    · obtain ⟨n, k, rfl, hn, hk, q⟩ := h
      refine ⟨_, (pss_cons (ps_set (i := 2) sc_counts.nd rfl (Or.inl rfl) (pe_lst (pa_cons (pv 0) pa_nil)))
   (pss_cons (ps_for PassesOwn.never rfl (pi_range1 (by rfl) bi.range_ (pa_cons (pv 1) pa_nil)) (pg_name (i := 3) sc_counts.nd rfl (Or.inl rfl))
   (pss_one (ps_expr (pe_bm PySem.F.plainAttrs_list PySem.F.slot_list_append PySem.F.type_list_append mt_append (pv 2) (pa_cons (pe_op op_fdiv (pe_op op_add (pe_ix ix_list (pv 2) (pe_un un_neg pe_int) (fun _ _ => rfl)) pe_int) pe_int) pa_nil)))))
   (pss_one (ps_ret (pv 2))))), ?_⟩
      refine rd_start (σ := [some (.int (n : Nat)), some (.int (k : Nat)), none, none]) rfl ?_
      walk_at "rd"
      rename_i D hD
      refine for_range (lo := 0) (n := ((k : Nat) : Int).toNat) (fun i σ H' => ∃ t, σ = [some (.int (n : Nat)), some (.int (k : Nat)), some (.ref D), t] ∧ H' D = some (.lst ((List.range (i + 1)).map fun i => V.int (cc n i : Nat))) ∧ Same H H') ⟨none, rfl, upd_same, same_new hD⟩ (fun i σ H' hi hI => ?_) (fun σ H' hI => ?_)
      · obtain ⟨t, rfl, e, hs⟩ := hI
        rw [Int.toNat_natCast] at hi
        walk_at "rd"
        refine rd_ixL (SqL.of e) (at_last (k := i) (by simp) (last_range _ i)) ?_
        walk_at "rd"
        refine rd_appG e (by simp; omega) ?_
        walk_at "rd"
        refine ⟨_, rfl, ?_, fun b o z => by rw [upd_ne (ne_of_none z hD)]; exact hs _ _ z⟩
        rw [upd_same, List.range_succ (n := i + 1), List.map_append]
        rw [show ((cc n i : Nat) : Int) + 1 = ((cc n i + 1 : Nat) : Int) by omega, show ((cc n i + 1 : Nat) : Int) / 2 = ((cc n (i + 1) : Nat) : Int) by show _ = (((cc n i + 1) / 2 : Nat) : Int); omega]
        rfl
      · obtain ⟨t, rfl, e, hs⟩ := hI
        walk_at "rd"
        exact q D _ hD hs e
    ) only [↓lt_eq]
theorem ok_tables {f : Addr} {fd : FuncData} {f_take : Addr} {fd_take : FuncData}    (D : Dn K mg "_law_tables" s_tables ["_law_pool_here"] f fd) (bi : Bi mg) (G_take : FnOk P w K mg base CX0 1 f_take fd_take ["_law_pool_here", "_law_many"] spTake) (D_take : Dn K mg "_law_take" s_take ["_law_pool_here", "_law_many"] f_take fd_take)     : FnOk P w K mg base CX0 2 f fd ["_law_pool_here"] spTabsX := by
  refine lt_out ?_
  simp (disch := with_unfolding_all
    refine D.F.ok sc_tables (fun vs H Q E h => ?_) (fun cdv A outer s H vs Q E hr h => ?_)
    · obtain ⟨p, rfl, _⟩ := h
      rfl
    · obtain ⟨p, rfl, hP, q⟩ := h
      refine ⟨_, (pss_cons (ps_set (i := 1) sc_tables.nd rfl (Or.inl rfl) (pe_tup (pa_cons (pe_call G_take (hr.mono (by first | decide | exact Nat.le_refl _)) (by rfl) D_take.g D_take.F.kp D_take.b .nil pass0 (pa_cons (pv 0) (pa_cons pe_int pa_nil))) (pa_cons (pe_op op_add pe_int (pe_call G_take (hr.mono (by first | decide | exact Nat.le_refl _)) (by rfl) D_take.g D_take.F.kp D_take.b .nil pass0 (pa_cons (pv 0) (pa_cons pe_int pa_nil)))) pa_nil))))
   (pss_one (ps_ret (pe_tup (pa_cons (pv 1) (pa_cons (pe_tup (pa_cons (pe_call G_take (hr.mono (by first | decide | exact Nat.le_refl _)) (by rfl) D_take.g D_take.F.kp D_take.b .nil pass0 (pa_cons (pv 0) (pa_cons pe_int pa_nil))) (pa_cons (pe_op op_add pe_int (pe_call G_take (hr.mono (by first | decide | exact Nat.le_refl _)) (by rfl) D_take.g D_take.F.kp D_take.b .nil pass0 (pa_cons (pv 0) (pa_cons pe_int pa_nil)))) pa_nil))) pa_nil)))))), ?_⟩
      refine rd_start (σ := [some (.ref p), none]) rfl ?_
      walk_at "rd"
      rename_i r1 H1 h10 h11 hP1 hK1 r2 H2 h20 h21 hP2 hK2 q3 hq3 r4 H4 h40 h41 hP4 hK4 r5 H5 h50 h51 hP5 hK5 q6 hq6 q7 hq7
      exact q q7 ((r1, 1 + r2), (r4, 1 + r5)) _ ⟨q3, q6, upd_same, by walk_at "hg", by walk_at "hg"⟩ ⟨h10, by dsimp only; omega, by dsimp only; omega, by dsimp only; omega⟩ ⟨h40, by dsimp only; omega, by dsimp only; omega, by dsimp only; omega⟩ (by walk_at "pl") (by walk_at "kp")
    ) only [↓lt_eq]
theorem ok_some {f : Addr} {fd : FuncData} {f_take : Addr} {fd_take : FuncData}    (D : Dn K mg "_law_some" s_some ["_law_pool_here", "_law_size"] f fd) (bi : Bi mg) (G_take : FnOk P w K mg base CX0 1 f_take fd_take ["_law_pool_here", "_law_many"] spTake) (D_take : Dn K mg "_law_take" s_take ["_law_pool_here", "_law_many"] f_take fd_take)     : FnOk P w K mg base CX0 2 f fd ["_law_pool_here", "_law_size"] spSomeX := by
  refine lt_out ?_
  simp (disch := with_unfolding_all
    refine D.F.ok sc_some (fun vs H Q E h => ?_) (fun cdv A outer s H vs Q E hr h => ?_)
    · obtain ⟨p, n, rfl, _⟩ := h
      rfl
    · obtain ⟨p, n, rfl, hP, hn, q⟩ := h
      refine ⟨_, (pss_cons (ps_set (i := 2) sc_some.nd rfl (Or.inr rfl) (pe_ix ix_list (pe_lst (pa_cons pe_int (pa_cons pe_int (pa_cons pe_int pa_nil)))) (pe_call G_take (hr.mono (by first | decide | exact Nat.le_refl _)) (by rfl) D_take.g D_take.F.kp D_take.b .nil pass0 (pa_cons (pv 0) (pa_cons pe_int pa_nil))) (fun _ _ => rfl)))
   (pss_one (ps_ret (pe_lc (own := [("_law_at", 3)]) (g := gName 3) (tt := tYes) rfl sc_some.nd (pi_range1 (by rfl) bi.range_ (pa_cons (pv 1) pa_nil)) (blkOk_by (N := ["_law_pool_here", "_law_size", "_law_top", "_law_at"]) (sc := defScope s_some) (by decide +kernel)) (fun _ _ _ _ _ => pg_name (i := 3) sc_some.nd rfl (Or.inl rfl)) (fun _ _ _ _ _ => pts_nil) (fun _ _ _ _ _ => (pe_op op_sub (pe_call G_take (hr.mono (by first | decide | exact Nat.le_refl _)) (by rfl) D_take.g D_take.F.kp D_take.b .nil pass0 (pa_cons (pv 0) (pa_cons (pe_op op_add (pe_op op_mul pe_int (pv 2)) pe_int) pa_nil))) (pv 2))))))), ?_⟩
      refine rd_start (σ := [some (.ref p), some (.int (n : Nat)), none, none]) rfl ?_
      walk_at "rd"
      rename_i q1 hq1 r2 H2 h20 h21 hP2 hK2
      refine' rd_ixP (fun v => ∃ j : Int, v = .int j ∧ 0 ≤ j ∧ j ≤ 30000) ?e ?h0 ?h1 ?hP fun v hv => ?_
      (case e => exact SqL.of (by walk_at "hg"))
      (case h0 => assumption)
      (case h1 => assumption)
      (case hP => walk_at "allm")
      obtain ⟨t, rfl, ht0, ht1⟩ := hv
      have hk2 : Kp p H H2 := by walk_at "kp"
      clear hK2
      walk_at "rd"
      rename_i S hS0
      have hSp : S ≠ p := hP2.ne hS0
      have hSn : H S = none := by
        cases z : H S with
        | none => rfl
        | some u => exact absurd (hk2 _ _ hSp z) (by rw [hS0]; exact fun y => nomatch y)
      refine lc_range (Pv := fun j H => ∃ vs : List Int, vs.length = j ∧ H S = some (.lst (vs.map V.int)) ∧ (∀ z ∈ vs, z.natAbs ≤ 30000) ∧ Pool H p ∧ Kp p H2 H) ⟨[], rfl, upd_same, List.forall_mem_nil _, hP2.new hS0, Kp.new hS0⟩ (fun j H' hj hI => ?_) (fun H' hI => ?_)
      · obtain ⟨vs, e1, e2, e3, hPj, hKj⟩ := hI
        refine ⟨rfl, rd_yes ?_⟩
        walk_at "rd"
        rename_i r7 H7 h70 h71 hP7 hK7
        have hSe := hK7 _ _ hSp e2
        refine ⟨_, hSe, small1000 (by rw [List.length_map]; omega), vs ++ [r7 - t], by rw [List.length_append, e1]; rfl, by rw [upd_same, List.map_append]; rfl, fun z hz => ?_, hP7.setL hSp, kp_app hS0 hKj hK7⟩
        rcases List.mem_append.mp hz with hz | hz
        · exact e3 z hz
        · rw [List.mem_singleton.mp hz]; omega
      · obtain ⟨vs, e1, e2, e3, hPj, hKj⟩ := hI
        exact q S vs _ hSn e2 (by omega) e3 hPj (hk2.trans hKj)
    ) only [↓lt_eq]
theorem ok_frame {f : Addr} {fd : FuncData} {f_counts : Addr} {fd_counts : FuncData} {f_written : Addr} {fd_written : FuncData} {f_mark : Addr} {fd_mark : FuncData}    (D : Dn K mg "_law_frame" s_frame ["_law_head", "_law_some_here", "_law_start"] f fd) (bi : Bi mg) (G_counts : FnOk P w K mg base CX0 1 f_counts fd_counts ["_law_size", "_law_many"] spCounts) (D_counts : Dn K mg "_law_counts" s_counts ["_law_size", "_law_many"] f_counts fd_counts) (G_written : FnOk P w K mg base CX0 3 f_written fd_written ["_law_some_here", "_law_first", "_law_start"] (spWr K)) (D_written : Dn K mg "_law_written" s_written ["_law_some_here", "_law_first", "_law_start"] f_written fd_written) (G_mark : FnOk P w K mg base CX0 2 f_mark fd_mark ["_law_some_here"] spMark) (D_mark : Dn K mg "_law_mark" s_mark ["_law_some_here"] f_mark fd_mark)     : FnOk P w K mg base CX0 4 f fd ["_law_head", "_law_some_here", "_law_start"] (spFrameX K) := by
  refine lt_out ?_
  simp (disch := with_unfolding_all
    refine D.F.ok sc_frame (fun vs H Q E h => ?_) (fun cdv A outer s H vs Q E hr h => ?_)
    · obtain ⟨h, j, a, b, d, ns, T, rfl, _⟩ := h
      rfl
    · obtain ⟨h, j, a, b, d, ns, T, rfl, hd, hok, hS, hl, hn, hT, o1, o2, q⟩ := h
      obtain ⟨ln, w, sh, lv, st⟩ := d
      obtain ⟨hd1, hd2⟩ := hd
      obtain ⟨k1, k2, k3, k4, k5, k6, k7, k8⟩ := hok
      dsimp only at k1 k2 k3 k4 k5 k6 k7 k8 hl hd1 hd2
      refine ⟨_, (pss_cons (ps_set (i := 3) sc_frame.nd rfl (Or.inl rfl) (pe_ix ix_list (pe_call G_counts (hr.mono (by first | decide | exact Nat.le_refl _)) (by rfl) D_counts.g D_counts.F.kp D_counts.b .nil pass0 (pa_cons (pe_ix ix_tup (pv 0) pe_int (fun _ _ => rfl)) (pa_cons (pe_ix ix_tup (pv 0) pe_int (fun _ _ => rfl)) pa_nil))) (pe_un un_neg pe_int) (fun _ _ => rfl)))
   (pss_cons (ps_asg (pe_call G_written (hr.mono (by first | decide | exact Nat.le_refl _)) (by rfl) D_written.g D_written.F.kp D_written.b .nil pass0 (pa_cons (pv 1) (pa_cons (pv 3) (pa_cons (pv 2) pa_nil)))) (pg_tup rfl (pgs_cons (pg_name (i := 4) sc_frame.nd rfl (Or.inl rfl)) (pgs_cons (pg_name (i := 5) sc_frame.nd rfl (Or.inl rfl)) pgs_nil))))
   (pss_one (ps_ret (pe_tup (pa_cons (pe_tup (pa_cons pe_str (pa_cons (pe_ix ix_tup (pv 0) pe_int (fun _ _ => rfl)) (pa_cons (pe_ix ix_tup (pv 0) pe_int (fun _ _ => rfl)) (pa_cons (pe_ix ix_tup (pv 0) pe_int (fun _ _ => rfl)) (pa_cons (pe_ix ix_tup (pv 0) pe_int (fun _ _ => rfl)) (pa_cons (pe_call G_mark (hr.mono (by first | decide | exact Nat.le_refl _)) (by rfl) D_mark.g D_mark.F.kp D_mark.b .nil pass0 (pa_cons (pv 1) pa_nil)) (pa_cons (pv 4) pa_nil)))))))) (pa_cons (pv 5) pa_nil))))))), ?_⟩
      refine rd_start (σ := [some (.ref h), some (.ref a), some (.ref b), none, none, none]) rfl ?_
      walk_at "rd"
      refine use_counts (by omega) (by omega) fun D H1 hD hs1 e1 => ?_
      walk_at "rd"
      refine rd_ixL (SqL.of e1) (at_last (k := lv) (by simp) (last_range _ lv)) ?_
      have hcc := cc_n ln lv
      have hS1 := hs1 _ _ hS
      walk_at "rd"
      refine use_wr hS1 (by omega) (by omega) (fun z hz => Nat.lt_of_le_of_lt (hn z hz) (by decide)) (hT.lk (.of hs1)) (o1.up (by decide)) (o2.up (by decide)) fun p2 q2 H2 hs2 hn2 e2 hT2 => ?_
      have hd1' := hs2 _ _ (hs1 _ _ hd1)
      have hS2 := hs2 _ _ hS1
      walk_at "rd"
      rename_i H3 hs3 r3 hr3 p4 hp4
      refine q p4 r3 q2 _ (((hs1.trans hs2).trans hs3).trans ((same_new hr3).trans (same_new hp4))) (((hs1.trans hs2).trans hs3).free ((same_new hr3).free hp4)) upd_same (look_new hp4 ?_) (hT2.lk ((LK.of hs3).trans ((LK.new hr3).trans (.new hp4))))
      exact upd_same
    ) only [↓lt_eq]
theorem ok_heads {f : Addr} {fd : FuncData} {f_take : Addr} {fd_take : FuncData}    (D : Dn K mg "_law_heads" s_heads ["_law_pool_here", "_law_many"] f fd) (bi : Bi mg) (G_take : FnOk P w K mg base CX0 1 f_take fd_take ["_law_pool_here", "_law_many"] spTake) (D_take : Dn K mg "_law_take" s_take ["_law_pool_here", "_law_many"] f_take fd_take)     : FnOk P w K mg base CX0 2 f fd ["_law_pool_here", "_law_many"] spHeads := by
  refine lt_out ?_
  simp (disch := with_unfolding_all
    refine D.F.ok sc_heads (fun vs H Q E h => ?_) (fun cdv A outer s H vs Q E hr h => ?_)
    · obtain ⟨p, m, rfl, _⟩ := h
      rfl
    · obtain ⟨p, m, rfl, hP, hm, q⟩ := h
      refine ⟨_, (pss_cons (ps_setLc (i := 2) (own := [("_law_turn", 3)]) (g := gName 3) (tt := tYes) rfl sc_heads.nd rfl rfl (sw_true rfl rfl rfl (by decide +kernel)) (pi_range1 (by rfl) bi.range_ (pa_cons (pv 1) pa_nil)) (blkOk_by (N := ["_law_pool_here", "_law_many", "_law_sizes", "_law_turn", "_law_long", "_law_found", "_law_left", "_law_at", "_law_size", "_law_most", "_law_width", "_law_joint"]) (sc := defScope s_heads) (by decide +kernel)) (fun _ _ _ _ _ => pg_name (i := 3) sc_heads.nd rfl (Or.inl rfl)) (fun _ _ _ _ _ => pts_nil) (fun _ _ _ _ _ => (pe_ix (show IxR _ (rIxL K) from ix_list) (pe_lst (pa_cons pe_int (pa_cons pe_int (pa_cons pe_int (pa_cons (pe_op op_add pe_int (pe_call G_take (hr.mono (by first | decide | exact Nat.le_refl _)) (by rfl) D_take.g D_take.F.kp D_take.b .nil pass0 (pa_cons (pv 0) (pa_cons pe_int pa_nil)))) (pa_cons pe_int pa_nil)))))) (pe_call G_take (hr.mono (by first | decide | exact Nat.le_refl _)) (by rfl) D_take.g D_take.F.kp D_take.b .nil pass0 (pa_cons (pv 0) (pa_cons pe_int pa_nil))) (fun _ _ => rfl))))
   (pss_cons (ps_set (i := 4) sc_heads.nd rfl (Or.inl rfl) (pe_call G_take (hr.mono (by first | decide | exact Nat.le_refl _)) (by rfl) D_take.g D_take.F.kp D_take.b .nil pass0 (pa_cons (pv 0) (pa_cons (pe_op op_add (pe_op op_mul pe_int (pv 1)) pe_int) pa_nil))))
   (C8.pss_cut (ps_if (pt_cmpR op_lt (pv 4) (pv 1) (nomark _))
   (pss_one (ps_asg (pe_op op_add pe_int (pe_call G_take (hr.mono (by first | decide | exact Nat.le_refl _)) (by rfl) D_take.g D_take.F.kp D_take.b .nil pass0 (pa_cons (pv 0) (pa_cons pe_int pa_nil)))) (pg_sub (pv 2) (pv 4) set_list)))
   pss_nil)
   (pss_cons (ps_par (i := 5) (j := 6) rfl sc_heads.nd rfl rfl (by decide) rfl rfl (pa_cons (pe_lst pa_nil) (pa_cons pe_int pa_nil)) rfl)
   (pss_cons (ps_for PassesOwn.never rfl (pi_enum (by rfl) bi.enumerate_ (pa_cons (pv 2) pa_nil)) (pg_tup rfl (pgs_cons (pg_name (i := 7) sc_heads.nd rfl (Or.inl rfl)) (pgs_cons (pg_name (i := 8) sc_heads.nd rfl (Or.inl rfl)) pgs_nil)))
   (C8.pss_cut (ps_set (i := 9) sc_heads.nd rfl (Or.inl rfl) (pe_ifExp (pt_cmpR op_lt (pe_op op_add (pv 7) pe_int) (pv 1) (nomark _)) (pe_callB (call_min3Nu rfl) (by rfl) bi.min_ (by decide +kernel) (pa_cons pe_int (pa_cons (pe_op op_sub (pv 8) (pv 6)) (pa_cons (pe_ix ix_list (pv 2) (pe_op op_add (pv 7) pe_int) (fun _ _ => rfl)) pa_nil)))) pe_int))
   (pss_cons (ps_set (i := 10) sc_heads.nd rfl (Or.inl rfl) (pe_ix ix_list (pe_lst (pa_cons pe_int (pa_cons (pe_call G_take (hr.mono (by first | decide | exact Nat.le_refl _)) (by rfl) D_take.g D_take.F.kp D_take.b .nil pass0 (pa_cons (pv 0) (pa_cons (pe_op op_add (pv 9) pe_int) pa_nil))) (pa_cons (pv 9) pa_nil)))) (pe_call G_take (hr.mono (by first | decide | exact Nat.le_refl _)) (by rfl) D_take.g D_take.F.kp D_take.b .nil pass0 (pa_cons (pv 0) (pa_cons pe_int pa_nil))) (fun _ _ => rfl)))
   (pss_cons (ps_set (i := 11) sc_heads.nd rfl (Or.inl rfl) (pe_tup (pa_cons (pv 10) (pa_cons (pe_op op_mul (pe_call G_take (hr.mono (by first | decide | exact Nat.le_refl _)) (by rfl) D_take.g D_take.F.kp D_take.b .nil pass0 (pa_cons (pv 0) (pa_cons pe_int pa_nil))) (pe_callTy cInt (by rfl) bi.int_ (by decide +kernel) (pa_cons (pe_cmpR op_gt (pv 10) pe_int (nomark _)) pa_nil))) pa_nil))))
   (pss_cons (ps_expr (pe_bm PySem.F.plainAttrs_list PySem.F.slot_list_append PySem.F.type_list_append mt_append (pv 5) (pa_cons (pe_tup (pa_cons (pv 8) (pa_cons (pv 11) (pa_cons (pe_call G_take (hr.mono (by first | decide | exact Nat.le_refl _)) (by rfl) D_take.g D_take.F.kp D_take.b .nil pass0 (pa_cons (pv 0) (pa_cons pe_int pa_nil))) (pa_cons (pe_ix ix_list (pe_lst (pa_cons pe_int (pa_cons (pe_op op_add pe_int (pe_call G_take (hr.mono (by first | decide | exact Nat.le_refl _)) (by rfl) D_take.g D_take.F.kp D_take.b .nil pass0 (pa_cons (pv 0) (pa_cons pe_int pa_nil)))) pa_nil))) (pe_call G_take (hr.mono (by first | decide | exact Nat.le_refl _)) (by rfl) D_take.g D_take.F.kp D_take.b .nil pass0 (pa_cons (pv 0) (pa_cons pe_int pa_nil))) (fun _ _ => rfl)) pa_nil))))) pa_nil)))
   (pss_one (ps_set (i := 6) sc_heads.nd rfl (Or.inl rfl) (pv 10))))))))
   (pss_one (ps_ret (pv 5)))))))), ?_⟩
      refine rd_start (σ := [some (.ref p), some (.int (m : Nat)), none, none, none, none, none, none, none, none, none, none]) rfl ?_
      walk_at "rd"
      rename_i S hS0
      have hSp : S ≠ p := hP.ne hS0
      refine lc_range (Pv := fun j H' => ∃ zs : List Nat, zs.length = j ∧ H' S = some (.lst (zs.map nv)) ∧ (∀ z ∈ zs, 1 ≤ z ∧ z ≤ 64) ∧ Pool H' p ∧ Kp p H H') ⟨[], rfl, upd_same, List.forall_mem_nil _, hP.new hS0, Kp.new hS0⟩ (fun j H' hj hI => ?_) (fun H' hI => ?_)
      · obtain ⟨zs, e1, e2, e3, hPj, hKj⟩ := hI
        refine ⟨rfl, rd_yes ?_⟩
        walk_at "rd"
        rename_i r7 H7 h70 h71 hP7 hK7 q8 hq8 r9 H9 h90 h91 hP9 hK9
        refine' rd_ixP (fun v => ∃ n : Nat, v = .int (n : Int) ∧ 1 ≤ n ∧ n ≤ 64) ?e ?h0 ?h1 ?hP fun v hv => ?_
        (case e => exact SqL.of (by walk_at "hg"))
        (case h0 => assumption)
        (case h1 => assumption)
        (case hP =>
          obtain ⟨m4, rfl⟩ : ∃ m : Nat, r7 = (m : Int) := ⟨r7.toNat, by omega⟩
          exact List.forall_mem_cons.mpr ⟨⟨1, rfl, by decide, by decide⟩, List.forall_mem_cons.mpr ⟨⟨2, rfl, by decide, by decide⟩, List.forall_mem_cons.mpr ⟨⟨3, rfl, by decide, by decide⟩, List.forall_mem_cons.mpr ⟨⟨1 + m4, by rw [Int.natCast_add]; rfl, by omega, by omega⟩, List.forall_mem_cons.mpr ⟨⟨8, rfl, by decide, by decide⟩, List.forall_mem_nil _⟩⟩⟩⟩⟩)
        obtain ⟨n, rfl, n1, n2⟩ := hv
        have hk9 : Kp p H' H9 := by walk_at "kp"
        have hSe := hk9 _ _ hSp e2
        refine ⟨_, hSe, small1000 (by rw [List.length_map]; omega), zs ++ [n], by rw [List.length_append, e1]; rfl, by rw [upd_same, List.map_append]; rfl, fun z hz => ?_, hP9.setL hSp, kp_app hS0 hKj hk9⟩
        rcases List.mem_append.mp hz with hz | hz
        · exact e3 z hz
        · rw [List.mem_singleton.mp hz]; exact ⟨n1, n2⟩
      obtain ⟨zs0, e1, e2, e3, hPj, hKj⟩ := hI
      rw [Int.toNat_natCast] at e1
      walk_at "rd"
      rename_i lg Hl hl0 hl1 hPl hKl
      have e2l := hKl _ _ hSp e2
      refine rd_cut (fun σ G => ∃ zs : List Nat, σ = [some (.ref p), some (.int (m : Nat)), some (.ref S), none, some (.int lg), none, none, none, none, none, none, none] ∧ zs.length = m ∧ G S = some (.lst (zs.map nv)) ∧ (∀ z ∈ zs, 1 ≤ z ∧ z ≤ 64) ∧ Pool G p ∧ Kp p H G) ?_ fun σ1 G1 hM => ?_
      · walk_at "rd"
        refine rd_iteD (fun c => ?_) (fun c => ?_)
        · walk_at "rd"
          rename_i r7 H7 h70 h71 hP7 hK7
          have hS7 := hK7 _ _ hSp e2l
          have hix : ixN (zs0.map nv).length lg = some lg.toNat := ixN_int hl0 (by rw [List.length_map, e1]; exact c)
          walk_at "rd"
          refine ⟨zs0.set lg.toNat (33 + r7.toNat), rfl, by rw [List.length_set]; exact e1, ?_, fun z hz => ?_, hP7.setL hSp, kp_app hS0 (hKj.trans hKl) hK7⟩
          · rw [upd_same, List.map_set]
            show _ = some (HO.lst ((zs0.map nv).set lg.toNat (V.int ((33 + r7.toNat : Nat) : Int))))
            rw [show ((33 + r7.toNat : Nat) : Int) = 33 + r7 by omega]
          · rcases List.mem_or_eq_of_mem_set hz with hz | rfl
            · exact e3 z hz
            · omega
        · walk_at "rd"
          exact ⟨zs0, rfl, e1, e2l, e3, hPl, hKj.trans hKl⟩
      clear e1 e2 e3 hPj hKj hPl hKl e2l
      obtain ⟨zs, rfl, zl, eS, zb, hP1, hK1⟩ := hM
      walk_at "rd"
      rename_i D hD
      have hDp : D ≠ p := hP1.ne hD
      have hDS : D ≠ S := (ne_of_none eS hD).symm
      have hDn : H D = none := none_of hK1 hDp hD
      refine rd_lpE (xs := zs.map nv) (SqL.of (look_new hD eS)) ?_
      refine for_enum (xs := zs.map nv) (fun i σ H' => ∃ hs refs l x7 x8 x9 x10 x11, σ = [some (.ref p), some (.int (m : Nat)), some (.ref S), none, some (.int lg), some (.ref D), some (.int ((l : Nat) : Int)), x7, x8, x9, x10, x11] ∧ H' S = some (.lst (zs.map nv)) ∧ H' D = some (.lst refs) ∧ hs.length = i ∧ refs.length = i ∧ HdsAt H' refs hs ∧ Ch 0 hs l ∧ (i < m → l ≤ zs.getD i 0) ∧ (i = m → l = 0) ∧ Pool H' p ∧ Kp p H H') ⟨[], [], 0, none, none, none, none, none, rfl, look_new hD eS, upd_same, rfl, rfl, .nil, rfl, fun _ => Nat.zero_le _, fun _ => rfl, hP1.new hD, hK1.trans (Kp.new hD)⟩ (fun i σ H1 _ hI => ?_) (fun i v σ H1 T hv hI hT => ?_) (fun σ H1 hI => ?_)
      · obtain ⟨hs, refs, l, x7, x8, x9, x10, x11, rfl, eS1, _⟩ := hI
        exact SqL.of eS1
      · obtain ⟨hs, refs, l, x7, x8, x9, x10, x11, rfl, eS1, eD1, hl1, hl2, hat, hch, hle, _, hPi, hKi⟩ := hI
        have him : i < m := by
          have z := (List.getElem?_eq_some_iff.mp hv).1
          rw [List.length_map, zl] at z
          exact z
        obtain ⟨z, rfl, hz, hz1, hz2⟩ : ∃ z : Nat, v = .int (z : Int) ∧ zs.getD i 0 = z ∧ 1 ≤ z ∧ z ≤ 64 := by
          have hi2 : i < zs.length := by omega
          rw [List.getElem?_map, List.getElem?_eq_getElem hi2] at hv
          have q := zb _ (List.getElem_mem hi2)
          exact ⟨zs[i], (Option.some.inj hv).symm, by rw [List.getD_eq_getElem?_getD, List.getElem?_eq_getElem hi2]; rfl, q.1, q.2⟩
        have hlz : l ≤ z := by rw [← hz]; exact hle him
        have hn2 : H1 T = none := hT
        have eS2 := look_new (o := .tup [.int (i : Nat), .int (z : Int)]) hT eS1
        have eD2 := look_new (o := .tup [.int (i : Nat), .int (z : Int)]) hT eD1
        have hat2 := hat.lk (LK.new (o := .tup [.int (i : Nat), .int (z : Int)]) hT)
        have hP2 : Pool (upd H1 T (.tup [.int (i : Nat), .int (z : Int)])) p := hPi.new hT
        have hK2 : Kp p H (upd H1 T (.tup [.int (i : Nat), .int (z : Int)])) := hKi.trans (Kp.new hT)
        have utt : (upd H1 T (.tup [.int (i : Nat), .int (z : Int)])) T = some (.tup [.int (i : Nat), .int (z : Int)]) := upd_same
        clear eS1 eD1 hat hPi hKi hn2 hT
        generalize upd H1 T (.tup [.int (i : Nat), .int (z : Int)]) = H2 at eS2 eD2 hat2 hP2 hK2 utt ⊢
        walk_at "rd"
        refine rd_cut (fun σ G => ∃ mo : Nat, σ = [some (.ref p), some (.int (m : Nat)), some (.ref S), none, some (.int lg), some (.ref D), some (.int ((l : Nat) : Int)), some (.int (i : Nat)), some (.int (z : Int)), some (.int ((mo : Nat) : Int)), x10, x11] ∧ mo ≤ 8 ∧ l + mo ≤ z ∧ (i + 1 < m → mo ≤ zs.getD (i + 1) 0) ∧ (¬ i + 1 < m → mo = 0) ∧ G = H2) ?_ fun σ3 G3 hM => ?_
        · walk_at "rd"
          refine rd_iteD (fun c => ?_) (fun c => ?_)
          · have c : i + 1 < m := by omega
            walk_at "rd"
            refine rd_ixL (SqL.of eS2) (at_nat (j := i + 1) (by omega) (by omega)) ?_
            walk_at "rd"
            refine rd_min3 ?_
            rw [show ((z : Nat) : Int) - ((l : Nat) : Int) = ((z - l : Nat) : Int) by omega]
            obtain ⟨mo, e0, m1, m2, m3⟩ := min3_nat 8 (z - l) (zs.getD (i + 1) 0)
            refine ⟨mo, ?_, m1, by omega, fun _ => m3, fun z => absurd c z, rfl⟩
            rw [show (8 : Int) = ((8 : Nat) : Int) from rfl, e0]
            rfl
          · have c : ¬ i + 1 < m := by omega
            walk_at "rd"
            exact ⟨0, rfl, by decide, by omega, fun z => absurd z c, fun _ => rfl, rfl⟩
        obtain ⟨mo, rfl, m8, mz, mn, m0, rfl⟩ := hM
        walk_at "rd"
        rename_i r5 H5 h50 h51 hP5 hK5 q6 hq6 r7 H7 h70 h71 hP7 hK7
        obtain ⟨r5, rfl⟩ : ∃ k : Nat, r5 = (k : Int) := ⟨r5.toNat, by omega⟩
        refine' rd_ixP (fun v => ∃ k : Nat, v = .int (k : Int) ∧ k ≤ mo) ?e ?h0 ?h1 ?hP fun v hv => ?_
        (case e => exact SqL.of (by walk_at "hg"))
        (case h0 => assumption)
        (case h1 => assumption)
        (case hP => exact List.forall_mem_cons.mpr ⟨⟨0, rfl, Nat.zero_le _⟩, List.forall_mem_cons.mpr ⟨⟨r5, rfl, by omega⟩, List.forall_mem_cons.mpr ⟨⟨mo, rfl, Nat.le_refl _⟩, List.forall_mem_nil _⟩⟩⟩)
        obtain ⟨wd, rfl, hwd⟩ := hv
        have hk7 : Kp p G3 H7 := by walk_at "kp"
        clear hK5 hq6 hK7 hP5
        walk_at "rd"
        rename_i r8 H8 h80 h81 hP8 hK8 q9 hq9 r10 H10 h100 h101 hP10 hK10 r11 H11 h110 h111 hP11 hK11 q12 hq12 r13 H13 h130 h131 hP13 hK13
        obtain ⟨r8, rfl⟩ : ∃ k : Nat, r8 = (k : Int) := ⟨r8.toNat, by omega⟩
        obtain ⟨r10, rfl⟩ : ∃ k : Nat, r10 = (k : Int) := ⟨r10.toNat, by omega⟩
        obtain ⟨r11, rfl⟩ : ∃ k : Nat, r11 = (k : Int) := ⟨r11.toNat, by omega⟩
        refine' rd_ixP (fun v => ∃ k : Nat, v = .int (k : Int) ∧ 1 ≤ k ∧ k ≤ 64) ?e ?h0 ?h1 ?hP fun v hv => ?_
        (case e => exact SqL.of (by walk_at "hg"))
        (case h0 => assumption)
        (case h1 => assumption)
        (case hP => exact List.forall_mem_cons.mpr ⟨⟨1, rfl, by decide, by decide⟩, List.forall_mem_cons.mpr ⟨⟨1 + r11, by rw [Int.natCast_add]; rfl, by omega, by omega⟩, List.forall_mem_nil _⟩⟩)
        obtain ⟨stp, rfl, hst1, hst2⟩ := hv
        have es : (r8 : Int) * (if decide (0 < (wd : Int)) = true then 1 else 0) = (((if 0 < wd then r8 else 0) : Nat) : Int) := by by_cases c : 0 < wd <;> simp [c]
        have e9 : H13 q9 = some (.tup [.int (wd : Int), .int ((r8 : Int) * (if decide (0 < (wd : Int)) = true then 1 else 0))]) := by walk_at "hg"
        rw [es] at e9
        have hk13 : Kp p G3 H13 := hk7.trans (by walk_at "kp")
        have eS13 := hk13 _ _ hSp eS2
        have eD13 := hk13 _ _ hDp eD2
        have hat13 := hat2.lk (LK.pool hP2 hk13)
        clear hK8 hK10 hK11 hK13 hq9 hq12 hP8 hP10 hP11
        walk_at "rd"
        rename_i q14 hq14
        have eD14 := look_new (o := .tup [.int (z : Int), .ref q9, .int (r10 : Int), .int (stp : Int)]) hq14 eD13
        refine rd_appG eD14 (by omega) ?_
        walk_at "rd"
        have lk : LK H13 (upd (upd H13 q14 (.tup [.int (z : Int), .ref q9, .int (r10 : Int), .int (stp : Int)])) D (.lst (refs ++ [.ref q14]))) := (LK.new hq14).trans (LK.at eD14)
        have hnew : HdAt (upd (upd H13 q14 (.tup [.int (z : Int), .ref q9, .int (r10 : Int), .int (stp : Int)])) D (.lst (refs ++ [.ref q14]))) q14 q9 (z, wd, (if 0 < wd then r8 else 0), r10, stp) := ⟨LK.at eD14 _ _ upd_same (fun _ z => nomatch z), lk _ _ e9 (fun _ z => nomatch z)⟩
        have hok : HdOk (z, wd, (if 0 < wd then r8 else 0), r10, stp) := ⟨by dsimp only; omega, by dsimp only; omega, by dsimp only; omega, by dsimp only; split <;> omega, by dsimp only; intro y; rw [y]; rfl, by dsimp only; omega, hst1, hst2⟩
        refine ⟨hs ++ [(z, wd, (if 0 < wd then r8 else 0), r10, stp)], refs ++ [.ref q14], wd, _, _, _, _, _, rfl, ?_, upd_same, by rw [List.length_append, hl1]; rfl, by rw [List.length_append, hl2]; rfl, (hat13.lk lk).app ⟨q14, q9, rfl, hnew⟩, hch.snoc hok (by dsimp only; omega), fun c => Nat.le_trans hwd (mn c), fun c => by have := m0 (by omega); omega, ?_, ?_⟩
        · rw [upd_ne hDS.symm]
          exact look_new hq14 eS13
        · exact (hP13.new hq14).setL hDp
        · exact fun b o nb e => by rw [upd_ne (ne_of_none e hDn)]; exact look_new hq14 (hk13 _ _ nb (hK2 _ _ nb e))
      · obtain ⟨hs, refs, l, x7, x8, x9, x10, x11, rfl, eS1, eD1, hl1, hl2, hat, hch, _, hl0, hPi, hKi⟩ := hI
        rw [List.length_map, zl] at hl1 hl0
        rw [hl0 rfl] at hch
        walk_at "rd"
        exact q D refs hs _ hDn eD1 hat hch hl1 hPi hKi
    ) only [↓lt_eq]
theorem ok_stream {f : Addr} {fd : FuncData} {f_take : Addr} {fd_take : FuncData} {f_heads : Addr} {fd_heads : FuncData} {f_tables : Addr} {fd_tables : FuncData} {f_some : Addr} {fd_some : FuncData} {f_frame : Addr} {fd_frame : FuncData}    (D : Dn K mg "_law_stream" s_stream ["_law_pool_here", "_law_many"] f fd) (bi : Bi mg) (G_take : FnOk P w K mg base CX0 1 f_take fd_take ["_law_pool_here", "_law_many"] spTake) (D_take : Dn K mg "_law_take" s_take ["_law_pool_here", "_law_many"] f_take fd_take) (G_heads : FnOk P w K mg base CX0 2 f_heads fd_heads ["_law_pool_here", "_law_many"] spHeads) (D_heads : Dn K mg "_law_heads" s_heads ["_law_pool_here", "_law_many"] f_heads fd_heads) (G_tables : FnOk P w K mg base CX0 2 f_tables fd_tables ["_law_pool_here"] spTabsX) (D_tables : Dn K mg "_law_tables" s_tables ["_law_pool_here"] f_tables fd_tables) (G_some : FnOk P w K mg base CX0 2 f_some fd_some ["_law_pool_here", "_law_size"] spSomeX) (D_some : Dn K mg "_law_some" s_some ["_law_pool_here", "_law_size"] f_some fd_some) (G_frame : FnOk P w K mg base CX0 4 f_frame fd_frame ["_law_head", "_law_some_here", "_law_start"] (spFrameX K)) (D_frame : Dn K mg "_law_frame" s_frame ["_law_head", "_law_some_here", "_law_start"] f_frame fd_frame)     : FnOk P w K mg base CX0 5 f fd ["_law_pool_here", "_law_many"] (spStreamF kfN K) := by
  refine lt_out ?_
  simp (disch := with_unfolding_all
    refine D.F.ok sc_stream (fun vs H Q E h => ?_) (fun cdv A outer s H vs Q E hr h => ?_)
    · obtain ⟨p, m, rfl, _⟩ := h
      rfl
    · obtain ⟨p, m, rfl, hP, hm, q⟩ := h
      refine ⟨_, (pss_cons (ps_asg (pe_tup (pa_cons (pe_lst pa_nil) (pa_cons (pe_lst pa_nil) (pa_cons (pe_lst pa_nil) (pa_cons (pe_tup (pa_cons (pe_tup (pa_cons pe_int (pa_cons pe_int pa_nil))) (pa_cons (pe_tup (pa_cons pe_int (pa_cons pe_int pa_nil))) pa_nil))) pa_nil))))) (pg_tup rfl (pgs_cons (pg_name (i := 2) sc_stream.nd rfl (Or.inl rfl)) (pgs_cons (pg_name (i := 3) sc_stream.nd rfl (Or.inl rfl)) (pgs_cons (pg_name (i := 4) sc_stream.nd rfl (Or.inl rfl)) (pgs_cons (pg_name (i := 5) sc_stream.nd rfl (Or.inl rfl)) pgs_nil))))))
   (pss_cons (ps_asg (pe_tup (pa_cons pe_int (pa_cons pe_int (pa_cons (pe_tup (pa_cons pe_int (pa_cons pe_int pa_nil))) pa_nil)))) (pg_tup rfl (pgs_cons (pg_name (i := 6) sc_stream.nd rfl (Or.inl rfl)) (pgs_cons (pg_name (i := 7) sc_stream.nd rfl (Or.inl rfl)) (pgs_cons (pg_name (i := 8) sc_stream.nd rfl (Or.inl rfl)) pgs_nil)))))
   (pss_cons (ps_for PassesOwn.never rfl (pi_list (pe_call G_heads (hr.mono (by first | decide | exact Nat.le_refl _)) (by rfl) D_heads.g D_heads.F.kp D_heads.b .nil pass0 (pa_cons (pv 0) (pa_cons (pv 1) pa_nil)))) (pg_name (i := 9) sc_stream.nd rfl (Or.inl rfl))
   (C8.pss_cut (ps_if (pt_cmpR op_eq (pe_call G_take (hr.mono (by first | decide | exact Nat.le_refl _)) (by rfl) D_take.g D_take.F.kp D_take.b .nil pass0 (pa_cons (pv 0) (pa_cons pe_int pa_nil))) pe_int (nomark _))
   (C8.pss_cut (ps_if (pt_cmpR op_eq (pe_call G_take (hr.mono (by first | decide | exact Nat.le_refl _)) (by rfl) D_take.g D_take.F.kp D_take.b .nil pass0 (pa_cons (pv 0) (pa_cons pe_int pa_nil))) pe_int (nomark _))
   (pss_one (ps_expr (pe_bm PySem.F.plainAttrs_list PySem.F.slot_list_append PySem.F.type_list_append mt_append (pv 2) (pa_cons (pe_tup (pa_cons pe_str (pa_cons (pe_call G_tables (hr.mono (by first | decide | exact Nat.le_refl _)) (by rfl) D_tables.g D_tables.F.kp D_tables.b .nil pass0 (pa_cons (pv 0) pa_nil)) pa_nil))) pa_nil))))
   pss_nil)
   (pss_cons (ps_set (i := 5) sc_stream.nd rfl (Or.inl rfl) (pe_ix ix_list (pe_lst (pa_cons (pv 5) (pa_cons (pe_tup (pa_cons (pe_tup (pa_cons pe_int (pa_cons pe_int pa_nil))) (pa_cons (pe_tup (pa_cons pe_int (pa_cons pe_int pa_nil))) pa_nil))) (pa_cons (pe_call G_tables (hr.mono (by first | decide | exact Nat.le_refl _)) (by rfl) D_tables.g D_tables.F.kp D_tables.b .nil pass0 (pa_cons (pv 0) pa_nil)) pa_nil)))) (pe_call G_take (hr.mono (by first | decide | exact Nat.le_refl _)) (by rfl) D_take.g D_take.F.kp D_take.b .nil pass0 (pa_cons (pv 0) (pa_cons pe_int pa_nil))) (fun _ _ => rfl)))
   (pss_cons (ps_set (i := 6) sc_stream.nd rfl (Or.inl rfl) (pe_callB cLen (by rfl) bi.len_ (by decide +kernel) (pa_cons (pv 2) pa_nil)))
   (pss_one (ps_expr (pe_bm PySem.F.plainAttrs_list PySem.F.slot_list_append PySem.F.type_list_append mt_append (pv 2) (pa_cons (pe_tup (pa_cons pe_str (pa_cons (pv 5) pa_nil))) pa_nil)))))))
   pss_nil)
   (pss_cons (ps_set (i := 10) sc_stream.nd rfl (Or.inl rfl) (pe_call G_some (hr.mono (by first | decide | exact Nat.le_refl _)) (by rfl) D_some.g D_some.F.kp D_some.b .nil pass0 (pa_cons (pv 0) (pa_cons (pe_ix ix_tup (pv 9) pe_int (fun _ _ => rfl)) pa_nil))))
   (pss_cons (ps_asg (pe_call G_frame (hr.mono (by first | decide | exact Nat.le_refl _)) (by rfl) D_frame.g D_frame.F.kp D_frame.b .nil pass0 (pa_cons (pv 9) (pa_cons (pv 10) (pa_cons (pv 5) pa_nil)))) (pg_tup rfl (pgs_cons (pg_name (i := 11) sc_stream.nd rfl (Or.inl rfl)) (pgs_cons (pg_name (i := 5) sc_stream.nd rfl (Or.inl rfl)) pgs_nil))))
   (pss_cons (ps_expr (pe_bm PySem.F.plainAttrs_list PySem.F.slot_list_append PySem.F.type_list_append mt_append (pv 3) (pa_cons (pe_tup (pa_cons (pe_callB cLen (by rfl) bi.len_ (by decide +kernel) (pa_cons (pv 2) pa_nil)) (pa_cons (pv 7) (pa_cons (pe_ix ix_tup (pv 9) pe_int (fun _ _ => rfl)) (pa_cons (pv 8) (pa_cons (pe_ix ix_tup (pv 9) pe_int (fun _ _ => rfl)) (pa_cons (pe_ix ix_tup (pv 9) pe_int (fun _ _ => rfl)) (pa_cons (pe_ix ix_tup (pv 9) pe_int (fun _ _ => rfl)) (pa_cons (pv 6) pa_nil))))))))) pa_nil)))
   (pss_cons (ps_expr (pe_bm PySem.F.plainAttrs_list PySem.F.slot_list_append PySem.F.type_list_append mt_append (pv 2) (pa_cons (pv 11) pa_nil)))
   (pss_cons (ps_expr (pe_bm PySem.F.plainAttrs_list PySem.F.slot_list_append PySem.F.type_list_append mt_append (pv 4) (pa_cons (pv 10) pa_nil)))
   (pss_one (ps_par (i := 7) (j := 8) rfl sc_stream.nd rfl rfl (by decide) rfl rfl (pa_cons (pe_op op_add (pv 7) (pe_ix ix_tup (pv 9) pe_int (fun _ _ => rfl))) (pa_cons (pe_ix ix_tup (pv 9) pe_int (fun _ _ => rfl)) pa_nil)) rfl)))))))))
   (C8.pss_cut (ps_if (pt_cmpR op_eq (pe_call G_take (hr.mono (by first | decide | exact Nat.le_refl _)) (by rfl) D_take.g D_take.F.kp D_take.b .nil pass0 (pa_cons (pv 0) (pa_cons pe_int pa_nil))) pe_int (nomark _))
   (pss_one (ps_expr (pe_bm PySem.F.plainAttrs_list PySem.F.slot_list_append PySem.F.type_list_append mt_append (pv 2) (pa_cons (pe_tup (pa_cons pe_str (pa_cons (pv 5) pa_nil))) pa_nil))))
   pss_nil)
   (pss_one (ps_ret (pe_lst (pa_cons (pv 2) (pa_cons (pv 3) (pa_cons (pv 4) pa_nil)))))))))), ?_⟩
      refine rd_start (σ := [some (.ref p), some (.int (m : Nat)), none, none, none, none, none, none, none, none, none, none]) rfl ?_
      walk_at "rd"
      rename_i R hR W hW B hB u1 hu1 u2 hu2 tt htt u4 hu4 jl0 hjl0 u5 hu5 HL hrefs hs HA hHL eHL hHd hCh hlen hPA hKA
      have nRp : R ≠ p := hP.ne hR
      have nWp : W ≠ p := (hP.new hR).ne hW
      have nBp : B ≠ p := ((hP.new hR).new hW).ne hB
      have nRW : R ≠ W := ne_of_none upd_same hW
      have nWB : W ≠ B := ne_of_none upd_same hB
      have nRB : R ≠ B := ne_of_none (look_new hW upd_same) hB
      have nHR : HL ≠ R := (ne_of_none (by walk_at "hg") hHL).symm
      have nHW : HL ≠ W := (ne_of_none (by walk_at "hg") hHL).symm
      have nHB : HL ≠ B := (ne_of_none (by walk_at "hg") hHL).symm
      have hR0 : H R = none := hR
      have hW0 : H W = none := (same_new hR).free hW
      have hB0 : H B = none := ((same_new hR).trans (same_new hW)).free hB
      have eRA : HA R = some (.lst []) := by walk_at "hg"
      have eWA : HA W = some (.lst []) := by walk_at "hg"
      have eBA : HA B = some (.lst []) := by walk_at "hg"
      have ntt : tt ≠ p := by walk_at "ne"
      have eTA : TbsV K HA tt T0 := (show TbsH HA tt T0 from ⟨u1, u2, by walk_at "hg", (show HA u1 = some (.tup [.int 2, .int 1]) from by walk_at "hg"), (show HA u2 = some (.tup [.int 2, .int 1]) from by walk_at "hg")⟩).tv
      have eJA : JtAt HA jl0 (0, 0) := (by walk_at "hg" : HA jl0 = some (.tup [.int 0, .int 0]))
      have kHA : Kp p H HA := by walk_at "kp"
      have S0 : SI kfN K p R W B HA [] [] [] [] T0 jl0 (0, 0) 0 0 0 := { eR := eRA, eW := eWA, eB := eBA, rc := .nil, rw := .nil, bk := .nil, vd := ⟨rfl, rfl⟩, jt := eJA, r1 := rfl, r2 := rfl, r3 := rfl, ln := rfl, le := Nat.le_refl _, po := hPA, nRp := nRp, nWp := nWp, nBp := nBp, nRW := nRW, nRB := nRB, nWB := nWB }
      have nHp : HL ≠ p := fun z => by
        obtain ⟨x, y, e, _⟩ := hP
        rw [z] at hHL
        have := (same_new (o := .lst []) hR)
        exact absurd hHL (by
          have e2 := look_new (o := .tup [.int 0, .int 0, .ref jl0]) hu5 (look_new (o := .tup [.int 0, .int 0]) hjl0 (look_new (o := .tup [.ref R, .ref W, .ref B, .ref tt]) hu4 (look_new (o := .tup [.ref u1, .ref u2]) htt (look_new (o := .tup [.int 2, .int 1]) hu2 (look_new (o := .tup [.int 2, .int 1]) hu1 (look_new (o := .lst []) hB (look_new (o := .lst []) hW (look_new (o := .lst []) hR e))))))))
          rw [e2]
          exact fun y => nomatch y)
      clear hR hW hB hu1 hu2 htt hu4 hjl0 hu5 hKA
      refine rd_lpL (SqL.of eHL) ?_
      refine for_list (xs := hrefs) (fun i σ G => ∃ refs rws bks rs T t jl lj o pl x9 x10 x11, σ = [some (.ref p), some (.int (m : Nat)), some (.ref R), some (.ref W), some (.ref B), some (.ref t), some (.int ((o : Nat) : Int)), some (.int (pl : Nat)), some (.ref jl), x9, x10, x11] ∧ SI kfN K p R W B G refs rws bks rs T jl lj o pl (3 * i) ∧ TbsV K G t T ∧ TbOk (100 + (i : Int) * 3840064) T.1 ∧ TbOk (100 + (i : Int) * 3840064) T.2 ∧ Ch lj.1 (hs.drop i) 0 ∧ G HL = some (.lst hrefs) ∧ HdsAt G hrefs hs ∧ Kp p H G) ⟨[], [], [], [], T0, tt, jl0, (0, 0), 0, 0, none, none, none, rfl, S0, eTA, ⟨by decide, by decide, by decide, by decide⟩, ⟨by decide, by decide, by decide, by decide⟩, hCh, eHL, hHd, kHA⟩ (fun i σ H1 _ hI => ?_) (fun i v σ H1 hv hI => ?_) (fun σ H1 hI => ?_)
      · obtain ⟨refs, rws, bks, rs, T, t, jl, lj, o, pl, x9, x10, x11, rfl, _, _, _, _, _, e, _⟩ := hI
        exact SqL.of e
      · obtain ⟨refs, rws, bks, rs, T, t, jl, lj, o, pl, x9, x10, x11, rfl, hSI, hT, o1, o2, hch, eH1, hH1, hK1⟩ := hI
        have hil : i < 20 := by
          have z := (List.getElem?_eq_some_iff.mp hv).1
          rw [hH1.len] at z
          omega
        obtain ⟨d, r, ⟨h, j, rfl, hd⟩, hdr, hdr2⟩ := hH1.get i v hv
        rw [hdr] at hch
        obtain ⟨hok, hwd, hch⟩ := hch
        have bi0 : (100 : Int) ≤ 100 + (i : Int) * 3840064 := by omega
        have bi1 : (100 + (i : Int) * 3840064) ≤ 10 ^ 9 := by omega
        walk_at "rd"
        refine rd_cut (fun σ G => ∃ refs rs T t o, σ = [some (.ref p), some (.int (m : Nat)), some (.ref R), some (.ref W), some (.ref B), some (.ref t), some (.int ((o : Nat) : Int)), some (.int (pl : Nat)), some (.ref jl), some (.ref h), x10, x11] ∧ SI kfN K p R W B G refs rws bks rs T jl lj o pl (3 * i + 2) ∧ TbsV K G t T ∧ TbOk (100 + (i : Int) * 3840064) T.1 ∧ TbOk (100 + (i : Int) * 3840064) T.2 ∧ HdAt G h j d ∧ G HL = some (.lst hrefs) ∧ HdsAt G hrefs hs ∧ Kp p H G) ?_ fun σ2 G2 hM => ?_
        · have hPo := hSI.po
          walk_at "rd"
          rename_i r3 H3 h30 h31 hP3 hK3
          have lk3 := LK.pool hSI.po hK3
          refine rd_iteD (fun c => ?_) (fun c => ?_)
          · walk_at "rd"
            refine rd_cut (fun σ G => ∃ refs rs T1 o1, σ = [some (.ref p), some (.int (m : Nat)), some (.ref R), some (.ref W), some (.ref B), some (.ref t), some (.int ((o : Nat) : Int)), some (.int (pl : Nat)), some (.ref jl), some (.ref h), x10, x11] ∧ SI kfN K p R W B G refs rws bks rs T1 jl lj o1 pl (3 * i + 1) ∧ TbsV K G t T ∧ HdAt G h j d ∧ G HL = some (.lst hrefs) ∧ HdsAt G hrefs hs ∧ Kp p H G) ?_ fun σ4 G4 hM => ?_
            · walk_at "rd"
              rename_i r5 H5 h50 h51 hP5 hK5
              have hk5 := hK3.trans hK5
              have lk5 := LK.pool hSI.po hk5
              have hSI5 := hSI.kp hk5 hP5
              have eR5 := hSI5.eR
              refine rd_iteD (fun c2 => ?_) (fun c2 => ?_)
              · walk_at "rd"
                rename_i t9 T9 H9 hT9 o9 o9' hP9 hK9 q10 hq10
                have hk9 := hk5.trans hK9
                have lk9 := (LK.pool hSI.po hk9).trans (LK.new (o := .tup [.str (Str.ofString "state"), .ref t9]) hq10)
                have hSI9 := (hSI.kp hk9 hP9).new (u := .tup [.str (Str.ofString "state"), .ref t9]) hq10
                refine rd_appG hSI9.eR (by have := hSI9.ln; have := hSI9.le; omega) ?_
                have lkR := lk9.trans (LK.at (o := .lst (refs ++ [.ref q10])) hSI9.eR)
                refine ⟨_, _, T9, _, rfl, hSI9.addSt upd_same ((TbsH.tv hT9).lk (.new hq10)) (tok_of o9 o9' (by decide)), hT.lk lkR, hd.lk lkR, by rw [upd_ne nHR]; exact look_new hq10 (hk9 _ _ nHp eH1), hH1.lk lkR, ?_⟩
                exact fun b x nb e => by rw [upd_ne (ne_of_none e hR0)]; exact look_new hq10 (hk9 _ _ nb (hK1 _ _ nb e))
              · walk_at "rd"
                exact ⟨refs, rs, T, o, rfl, hSI5.up (by omega), hT.lk lk5, hd.lk lk5, hk5 _ _ nHp eH1, hH1.lk lk5, hK1.trans hk5⟩
            obtain ⟨refs, rs, T1, o1', rfl, hSI, hT, hd, eH4, hH4, hK4⟩ := hM
            have hP4 := hSI.po
            walk_at "rd"
            rename_i u6 hu6 u7 hu7 u8 hu8 t9 T9 H9 hT9 o9 o9' hP9 hK9 q10 hq10 r11 H11 h110 h111 hP11 hK11
            have e6 : H11 u6 = some (.tup [.int 2, .int 1]) := by walk_at "hg"
            have e7 : H11 u7 = some (.tup [.int 2, .int 1]) := by walk_at "hg"
            have e8 : H11 u8 = some (.tup [.ref u6, .ref u7]) := by walk_at "hg"
            have e10 : H11 q10 = some (.lst [.ref t, .ref u8, .ref t9]) := by walk_at "hg"
            have lk9 : LK H9 H11 := (LK.new hq10).trans (LK.pool (hP9.new hq10) hK11)
            have hk11 : Kp p G4 H11 := by walk_at "kp"
            have lk11 := LK.pool hP4 hk11
            have hSI11 := hSI.kp hk11 hP11
            clear hu6 hu7 hu8 hK9 hq10 hK11 hP9 hP4
            refine' rd_ixP (fun v => ∃ t' T', v = .ref t' ∧ TbsV K H11 t' T' ∧ TbOk (100 + (i : Int) * 3840064) T'.1 ∧ TbOk (100 + (i : Int) * 3840064) T'.2) ?e ?h0 ?h1 ?hP fun v hv => ?_
            (case e => exact SqL.of e10)
            (case h0 => assumption)
            (case h1 => assumption)
            (case hP => exact List.forall_mem_cons.mpr ⟨⟨t, T, rfl, hT.lk lk11, o1, o2⟩, List.forall_mem_cons.mpr ⟨⟨u8, T0, rfl, (show TbsH H11 u8 T0 from ⟨u6, u7, e8, e6, e7⟩).tv, ⟨by decide, by show (2 : Int) ≤ _; omega, by decide, by decide⟩, ⟨by decide, by show (2 : Int) ≤ _; omega, by decide, by decide⟩⟩, List.forall_mem_cons.mpr ⟨⟨t9, T9, rfl, (TbsH.tv hT9).lk lk9, o9.up (by omega), o9'.up (by omega)⟩, List.forall_mem_nil _⟩⟩⟩)
            obtain ⟨t', T', rfl, hT', o1', o2'⟩ := hv
            have eR11 := hSI11.eR
            walk_at "rd"
            rename_i q12 hq12
            have hSI12 := hSI11.new (u := .tup [.str (Str.ofString "state"), .ref t']) hq12
            refine rd_appG hSI12.eR (by have := hSI12.ln; have := hSI12.le; omega) ?_
            have lkR := (lk11.trans (LK.new (o := .tup [.str (Str.ofString "state"), .ref t']) hq12)).trans (LK.at (o := .lst (refs ++ [.ref q12])) hSI12.eR)
            rw [hSI11.ln]
            refine ⟨_, _, T', t', rs.length, rfl, (hSI12.addSt upd_same (hT'.lk (.new hq12)) (tok_of o1' o2' bi1)).up (by omega), hT'.lk ((LK.new hq12).trans (LK.at hSI12.eR)), o1', o2', hd.lk lkR, by rw [upd_ne nHR]; exact look_new hq12 (hk11 _ _ nHp eH4), hH4.lk lkR, ?_⟩
            exact fun b x nb e => by rw [upd_ne (ne_of_none e hR0)]; exact look_new hq12 (hk11 _ _ nb (hK4 _ _ nb e))
          · walk_at "rd"
            exact ⟨refs, rs, T, t, o, rfl, (hSI.kp hK3 hP3).up (by omega), hT.lk lk3, o1, o2, hd.lk lk3, hK3 _ _ nHp eH1, hH1.lk lk3, hK1.trans hK3⟩
        obtain ⟨refs, rs, T, t, o, rfl, hSI, hT, o1, o2, hd, eH2, hH2, hK2⟩ := hM
        have hP2 := hSI.po
        have h64 : d.1 ≤ 64 := hok.2.1
        have h1 : 1 ≤ d.1 := hok.1
        have hlv : d.2.2.2.1 ≤ 5 := hok.2.2.2.2.2.1
        have hd1 := hd.1
        walk_at "rd"
        rename_i S ns H3 hS3 eS3 hl3 hn3 hP3 hK3
        have lk3 := LK.pool hP2 hK3
        have hSI3 := hSI.kp hK3 hP3
        have hd3 := hd.lk lk3
        have nSR : R ≠ S := ne_of_none hSI.eR hS3
        have nSW : W ≠ S := ne_of_none hSI.eW hS3
        refine use_frameX (d := d) hd3 hok eS3 hl3 hn3 (hT.lk lk3) (o1.up (by omega)) (o2.up (by omega)) fun p4 r4 q4 H4 hs4 hn4 e4 hfr hTq => ?_
        have hSI4 := hSI3.same hs4
        have eR4 := hSI4.eR
        have eW4 := hSI4.eW
        have hd4 := hd3.lk (LK.of hs4)
        have hd41 := hd4.1
        have hP4 := hSI4.po
        have lenA := hSI4.lw
        have nBR := nRB.symm
        have nBW := nWB.symm
        walk_at "rd"
        rename_i w5 hw5
        have hSI5 := hSI4.new (u := .tup [.int (refs.length : Nat), .int (pl : Nat), .int (d.1 : Nat), .ref jl, .ref j, .int (d.2.2.2.1 : Nat), .int (d.2.2.2.2 : Nat), .int (o : Nat)]) hw5
        have eW5 := hSI5.eW
        have eR5 := hSI5.eR
        have eB5 := hSI5.eB
        refine rd_appG hSI5.eW (by omega) ?_
        walk_at "rd"
        refine rd_appG (by rw [upd_ne nRW]; exact hSI5.eR) (by omega) ?_
        have lk5 : LK H4 (upd (upd (upd H4 w5 (.tup [.int (refs.length : Nat), .int (pl : Nat), .int (d.1 : Nat), .ref jl, .ref j, .int (d.2.2.2.1 : Nat), .int (d.2.2.2.2 : Nat), .int (o : Nat)])) W (.lst (rws ++ [.ref w5]))) R (.lst (refs ++ [.ref r4]))) := ((LK.new hw5).trans (LK.at hSI5.eW)).trans (LK.at (by rw [upd_ne nRW]; exact hSI5.eR))
        have nS5 : S ≠ w5 := ne_of_none (hs4 _ _ eS3) hw5
        have eS6 : (upd (upd (upd H4 w5 (.tup [.int (refs.length : Nat), .int (pl : Nat), .int (d.1 : Nat), .ref jl, .ref j, .int (d.2.2.2.1 : Nat), .int (d.2.2.2.2 : Nat), .int (o : Nat)])) W (.lst (rws ++ [.ref w5]))) R (.lst (refs ++ [.ref r4]))) S = some (.lst (ns.map V.int)) := by
          rw [upd_ne nSR.symm, upd_ne nSW.symm, upd_ne nS5]
          exact hs4 _ _ eS3
        have eB6 : (upd (upd (upd H4 w5 (.tup [.int (refs.length : Nat), .int (pl : Nat), .int (d.1 : Nat), .ref jl, .ref j, .int (d.2.2.2.1 : Nat), .int (d.2.2.2.2 : Nat), .int (o : Nat)])) W (.lst (rws ++ [.ref w5]))) R (.lst (refs ++ [.ref r4]))) B = some (.lst bks) := by
          rw [upd_ne nBR, upd_ne nBW]
          exact eB5
        have eW6 : ∃ xs, (upd (upd (upd H4 w5 (.tup [.int (refs.length : Nat), .int (pl : Nat), .int (d.1 : Nat), .ref jl, .ref j, .int (d.2.2.2.1 : Nat), .int (d.2.2.2.2 : Nat), .int (o : Nat)])) W (.lst (rws ++ [.ref w5]))) R (.lst (refs ++ [.ref r4]))) W = some (.lst xs) := ⟨_, by rw [upd_ne nRW.symm]; exact upd_same⟩
        have eR6 : ∃ xs, (upd (upd (upd H4 w5 (.tup [.int (refs.length : Nat), .int (pl : Nat), .int (d.1 : Nat), .ref jl, .ref j, .int (d.2.2.2.1 : Nat), .int (d.2.2.2.2 : Nat), .int (o : Nat)])) W (.lst (rws ++ [.ref w5]))) R (.lst (refs ++ [.ref r4]))) R = some (.lst xs) := ⟨_, upd_same⟩
        have hP6 : Pool (upd (upd (upd H4 w5 (.tup [.int (refs.length : Nat), .int (pl : Nat), .int (d.1 : Nat), .ref jl, .ref j, .int (d.2.2.2.1 : Nat), .int (d.2.2.2.2 : Nat), .int (o : Nat)])) W (.lst (rws ++ [.ref w5]))) R (.lst (refs ++ [.ref r4]))) p := pool_upd nRp (pool_upd nWp hSI5.po)
        have eH6 : (upd (upd (upd H4 w5 (.tup [.int (refs.length : Nat), .int (pl : Nat), .int (d.1 : Nat), .ref jl, .ref j, .int (d.2.2.2.1 : Nat), .int (d.2.2.2.2 : Nat), .int (o : Nat)])) W (.lst (rws ++ [.ref w5]))) R (.lst (refs ++ [.ref r4]))) HL = some (.lst hrefs) := by
          rw [upd_ne nHR, upd_ne nHW]
          exact look_new hw5 (hs4 _ _ (hK3 _ _ nHp eH2))
        have hd6 := (hd4.lk lk5).1
        have kx6 : ∀ b x, b ≠ p → H b = some x → (upd (upd (upd H4 w5 (.tup [.int (refs.length : Nat), .int (pl : Nat), .int (d.1 : Nat), .ref jl, .ref j, .int (d.2.2.2.1 : Nat), .int (d.2.2.2.2 : Nat), .int (o : Nat)])) W (.lst (rws ++ [.ref w5]))) R (.lst (refs ++ [.ref r4]))) b = some x := fun b x nb e => by
          rw [upd_ne (ne_of_none e hR0), upd_ne (ne_of_none e hW0)]
          exact look_new hw5 (hs4 _ _ (hK3 _ _ nb (hK2 _ _ nb e)))
        have fin := fun (H3 : Hp) (b0 : Addr) s e n => hSI5.addFr (H3 := H3) (w0 := w5) (r0 := r4) (j := j) (b0 := b0) hok hwd hl3 hn3 (tok_of o1 o2 bi1) (hd4.lk (LK.new (o := (.tup [.int (refs.length : Nat), .int (pl : Nat), .int (d.1 : Nat), .ref jl, .ref j, .int (d.2.2.2.1 : Nat), .int (d.2.2.2.2 : Nat), .int (o : Nat)])) hw5)).2 (look_new hw5 hfr) upd_same s e n
        have lkT : LK H4 (upd (upd (upd H4 w5 (.tup [.int (refs.length : Nat), .int (pl : Nat), .int (d.1 : Nat), .ref jl, .ref j, .int (d.2.2.2.1 : Nat), .int (d.2.2.2.2 : Nat), .int (o : Nat)])) W (.lst (rws ++ [.ref w5]))) R (.lst (refs ++ [.ref r4]))) := lk5
        generalize (upd (upd (upd H4 w5 (.tup [.int (refs.length : Nat), .int (pl : Nat), .int (d.1 : Nat), .ref jl, .ref j, .int (d.2.2.2.1 : Nat), .int (d.2.2.2.2 : Nat), .int (o : Nat)])) W (.lst (rws ++ [.ref w5]))) R (.lst (refs ++ [.ref r4]))) = H6 at eS6 eB6 eW6 eR6 hP6 eH6 hd6 kx6 fin lkT ⊢
        clear lk5 hw5 nS5 eW5 eR5 eB5 hSI5
        obtain ⟨xW, eW6⟩ := eW6
        obtain ⟨xR, eR6⟩ := eR6
        walk_at "rd"
        refine rd_appG eB6 (by omega) ?_
        have nb0 : S ∉ [p, R, W, B] := nm_cons (hP2.ne hS3) (nm_cons nSR.symm (nm_cons nSW.symm (nm_cons (ne_of_none hSI.eB hS3).symm List.not_mem_nil)))
        have lkB : LK H6 (upd H6 B (.lst (bks ++ [.ref S]))) := LK.at eB6
        have hd8 := lkB _ _ hd6 (fun _ z => nomatch z)
        walk_at "rd"
        obtain ⟨b1, b2⟩ := next_ok hl3 h64 hn3 o1 o2
        refine ⟨_, _, _, _, _, q4, j, (d.2.1, d.2.2.1), o, pl + d.1, some (.ref h), some (.ref S), some (.ref r4), ?_, (fin H6 S (Same.refl _) eS6 nb0).up (by omega), hTq.lk (lkT.trans lkB), b1.up (by push_cast; omega), b2.up (by push_cast; omega), by rw [hdr2]; exact hch, ?_, ?_, ?_⟩
        · rw [show ((pl + d.1 : Nat) : Int) = (pl : Int) + (d.1 : Int) by omega]
          rfl
        · rw [upd_ne nHB]
          exact eH6
        · exact hH2.lk (((lk3.trans (.of hs4)).trans lkT).trans lkB)
        · exact fun b x nb e => by rw [upd_ne (ne_of_none e hB0)]; exact kx6 b x nb e
      · obtain ⟨refs, rws, bks, rs, T, t, jl, lj, o, pl, x9, x10, x11, rfl, hSI, hT, o1, o2, hch, eH1, hH1, hK1⟩ := hI
        rw [hH1.len, List.drop_length] at hch
        have hch : lj.1 = 0 := hch
        have hm2 : hrefs.length ≤ 9 := by rw [hH1.len]; omega
        have hPo := hSI.po
        refine rd_cut (fun σ G => ∃ refs rs T t o', σ = [some (.ref p), some (.int (m : Nat)), some (.ref R), some (.ref W), some (.ref B), some (.ref t), some (.int ((o : Nat) : Int)), some (.int (pl : Nat)), some (.ref jl), x9, x10, x11] ∧ SI kfN K p R W B G refs rws bks rs T jl lj o' pl (3 * hrefs.length + 1) ∧ Kp p H G) ?_ fun σ9 G9 hM => ?_
        · walk_at "rd"
          rename_i r3 H3 h30 h31 hP3 hK3
          have hSI3 := hSI.kp hK3 hP3
          have eR3 := hSI3.eR
          have l3 := hSI3.lw
          refine rd_iteD (fun c => ?_) (fun c => ?_)
          · walk_at "rd"
            rename_i q4 hq4
            have hSI4 := hSI3.new (u := .tup [.str (Str.ofString "state"), .ref t]) hq4
            refine rd_appG hSI4.eR (by omega) ?_
            refine ⟨_, _, T, t, _, rfl, hSI4.addSt upd_same (hT.lk ((LK.pool hPo hK3).trans (LK.new hq4))) (tok_of o1 o2 (by omega)), ?_⟩
            exact fun b x nb e => by rw [upd_ne (ne_of_none e hR0)]; exact look_new hq4 (hK3 _ _ nb (hK1 _ _ nb e))
          · walk_at "rd"
            exact ⟨refs, rs, T, t, o, rfl, hSI3.up (by omega), hK1.trans hK3⟩
        obtain ⟨refs, rs, T, t, o', rfl, hSI, hK9⟩ := hM
        have l9 := hSI.lw
        walk_at "rd"
        rename_i L hL
        have sL := same_new (o := .lst [.ref R, .ref W, .ref B]) hL
        have lkL := LK.of sL
        exact q L R W B refs rws bks rs T _ (none_of hK9 (hSI.po.ne hL) hL) hR0 hW0 hB0 upd_same (sL _ _ hSI.eR) (sL _ _ hSI.eW) (sL _ _ hSI.eB) (by omega) (hSI.rc.lk lkL) (hSI.rw.lk lkL) (hSI.bk.kp (KpL.ofS sL)) (by have := hSI.vd; rw [hch] at this; exact this) (hSI.po.new hL) (hK9.trans (Kp.new hL))
    ) only [↓lt_eq]
theorem ok_is_integer {f : Addr} {fd : FuncData}     (D : Dn K mg "is_integer" s_is_integer ["value"] f fd) (bi : Bi mg)      : FnOk P w K mg base CX0 1 f fd ["value"] spIsI := by
  refine lt_out ?_
  simp (disch := with_unfolding_all
    refine D.F.ok sc_is_integer (fun vs H Q E h => ?_) (fun cdv A outer s H vs Q E hr h => ?_)
    · obtain ⟨x, rfl, _⟩ := h
      rfl
    · obtain ⟨x, rfl, t, q⟩ := h
      refine ⟨_, (pss_one (ps_ret (pe_and (pe_callB call_isi (by rfl) bi.isinstance_ (by decide +kernel) (pa_cons (pv 0) (pa_cons (pe_bltn (v := .ty "int") (by rfl) bi.int_ (by decide +kernel) rfl) pa_nil))) (pe_one (pe_not (pe_callB call_isi (by rfl) bi.isinstance_ (by decide +kernel) (pa_cons (pv 0) (pa_cons (pe_bltn (v := .ty "bool") (by rfl) bi.bool_ (by decide +kernel) rfl) pa_nil)))))))), ?_⟩
      refine rd_start (σ := [some x]) rfl ?_
      cases x with
      | non => walk_at "rd"; exact q
      | bl _ => walk_at "rd"; exact q
      | int _ => walk_at "rd"; exact q
      | str _ => walk_at "rd"; exact q
      | ref a =>
        rcases t with ⟨xs, t⟩ | ⟨xs, t⟩
        · walk_at "rd"; exact q
        · walk_at "rd"; exact q
      | byt _ => exact t.elim
      | flt _ => exact t.elim
      | ty _ => exact t.elim
    ) only [↓lt_eq]
theorem ok_is_within {f : Addr} {fd : FuncData} {f_is_integer : Addr} {fd_is_integer : FuncData}    (D : Dn K mg "is_within" s_is_within ["value", "low", "high"] f fd) (bi : Bi mg) (G_is_integer : FnOk P w K mg base CX0 1 f_is_integer fd_is_integer ["value"] spIsI) (D_is_integer : Dn K mg "is_integer" s_is_integer ["value"] f_is_integer fd_is_integer)     : FnOk P w K mg base CX0 2 f fd ["value", "low", "high"] spWithin := by
  refine lt_out ?_
  simp (disch := with_unfolding_all
    refine D.F.ok sc_is_within (fun vs H Q E h => ?_) (fun cdv A outer s H vs Q E hr h => ?_)
    · obtain ⟨x, lo, hi, rfl, _⟩ := h
      rfl
    · obtain ⟨x, lo, hi, rfl, t, q⟩ := h
      refine ⟨_, (pss_one (ps_ret (pe_and (pe_call G_is_integer (hr.mono (by first | decide | exact Nat.le_refl _)) (by rfl) D_is_integer.g D_is_integer.F.kp D_is_integer.b .nil pass0 (pa_cons (pv 0) pa_nil)) (pe_one (pe_chain op_le op_le (pv 1) (pv 0) (pv 2)))))), ?_⟩
      refine rd_start (σ := [some x, some (.int lo), some (.int hi)]) rfl ?_
      walk_at "rd"
      refine use_isi t (rd_bl ?_)
      cases x with
      | int i =>
        refine if_yes (c := isI (V.int i)) rfl ?_
        walk_at "rd"
        refine rd_iteD (p := lo ≤ i) (fun c => ?_) (fun c => ?_)
        · walk_at "rd"
          have e : inI (.int i) lo hi = decide (i ≤ hi) := by simp [inI, c]
          rw [e] at q
          exact q
        · have e : inI (.int i) lo hi = false := by simp [inI, c]
          rw [e] at q
          exact q
      | non => exact iteF q
      | bl _ => exact iteF q
      | str _ => exact iteF q
      | ref _ => exact iteF q
      | byt _ => exact iteF q
      | flt _ => exact iteF q
      | ty _ => exact iteF q
    ) only [↓lt_eq]
theorem ok_is_joint {f : Addr} {fd : FuncData} {f_is_within : Addr} {fd_is_within : FuncData}    (D : Dn K mg "is_joint" s_is_joint ["value"] f fd) (bi : Bi mg) (G_is_within : FnOk P w K mg base CX0 2 f_is_within fd_is_within ["value", "low", "high"] spWithin) (D_is_within : Dn K mg "is_within" s_is_within ["value", "low", "high"] f_is_within fd_is_within)    (g_WIDTH_LIMIT : ∃ t, mg "WIDTH_LIMIT" = some (.int 8 t)) (g_SHAPE_LIMIT : ∃ t, mg "SHAPE_LIMIT" = some (.int 3 t)) : FnOk P w K mg base CX0 3 f fd ["value"] spJ := by
  refine lt_out ?_
  simp (disch := with_unfolding_all
    refine D.F.ok sc_is_joint (fun vs H Q E h => ?_) (fun cdv A outer s H vs Q E hr h => ?_)
    · obtain ⟨x, b, rfl, _⟩ := h
      rfl
    · obtain ⟨x, b, rfl, hj, q⟩ := h
      obtain ⟨t1, g_WIDTH_LIMIT⟩ := g_WIDTH_LIMIT
      obtain ⟨t2, g_SHAPE_LIMIT⟩ := g_SHAPE_LIMIT
      refine ⟨_, (pss_cons (ps_if (PW.pt (pw_or (pt_not (pt_val (pe_callB call_isi (by rfl) bi.isinstance_ (by decide +kernel) (pa_cons (pv 0) (pa_cons (pe_bltn (v := .ty "tuple") (by rfl) bi.tuple_ (by decide +kernel) rfl) pa_nil))))) (pw_or1 (pt_cmpR op_ne (pe_callB cLen (by rfl) bi.len_ (by decide +kernel) (pa_cons (pv 0) pa_nil)) pe_int (nomark _)))))
   (pss_one (ps_ret pe_bl))
   pss_nil)
   (pss_cons (ps_asg (pv 0) (pg_tup rfl (pgs_cons (pg_name (i := 1) sc_is_joint.nd rfl (Or.inl rfl)) (pgs_cons (pg_name (i := 2) sc_is_joint.nd rfl (Or.inl rfl)) pgs_nil))))
   (pss_cons (ps_if (PW.pt (pw_or (pt_not (pt_val (pe_call G_is_within (hr.mono (by first | decide | exact Nat.le_refl _)) (by rfl) D_is_within.g D_is_within.F.kp D_is_within.b .nil pass0 (pa_cons (pv 1) (pa_cons pe_int (pa_cons (pe_glob (v := .int 8) (by rfl) g_WIDTH_LIMIT ⟨_, rfl⟩) pa_nil)))))) (pw_or1 (pt_not (pt_val (pe_call G_is_within (hr.mono (by first | decide | exact Nat.le_refl _)) (by rfl) D_is_within.g D_is_within.F.kp D_is_within.b .nil pass0 (pa_cons (pv 2) (pa_cons pe_int (pa_cons (pe_glob (v := .int 3) (by rfl) g_SHAPE_LIMIT ⟨_, rfl⟩) pa_nil)))))))))
   (pss_one (ps_ret pe_bl))
   pss_nil)
   (pss_one (ps_ret (pe_or (pe_cmpR op_gt (pv 1) pe_int (nomark _)) (pe_one (pe_cmpR op_eq (pv 2) pe_int (nomark _))))))))), ?_⟩
      refine rd_start (σ := [some x, none, none]) rfl ?_
      cases hj with
      | @flat _ h =>
        cases x with
        | non => walk_at "rd"; exact q
        | bl _ => walk_at "rd"; exact q
        | int _ => walk_at "rd"; exact q
        | str _ => walk_at "rd"; exact q
        | ref _ => exact Bool.noConfusion h
        | byt _ => exact Bool.noConfusion h
        | flt _ => exact Bool.noConfusion h
        | ty _ => exact Bool.noConfusion h
      | @lst a xs h => walk_at "rd"; exact q
      | @tupn a xs h n =>
        walk_at "rd"
        refine if_yesN (fun z => n (Int.ofNat.inj (V.int.inj z))) ?_
        walk_at "rd"
        exact q
      | @tup2 a u v h hu hv =>
        walk_at "rd"
        refine if_noN rfl ?_
        walk_at "rd"
        refine use_within hu ?_
        walk_at "rd"
        cases cu : inI u 0 8 with
        | false =>
          rw [jt_no1 cu] at q
          walk_at "rd"
          exact q
        | true =>
          walk_at "rd"
          refine use_within hv ?_
          walk_at "rd"
          cases cv : inI v 0 3 with
          | false =>
            rw [jt_no2 cv] at q
            walk_at "rd"
            exact q
          | true =>
            obtain ⟨w1, rfl⟩ := isI_yes (inI_isI cu)
            obtain ⟨w2, rfl⟩ := isI_yes (inI_isI cv)
            have e : jt (.int w1) (.int w2) = (decide (0 < w1) || decide (w2 = 0)) := by unfold jt; rw [cu, cv]; rfl
            rw [e] at q
            walk_at "rd"
            refine rd_iteD (fun c => ?_) (fun c => ?_)
            · rw [decide_eq_true c] at q
              exact q
            · walk_at "rd"
              rw [decide_eq_false c, ← dec_i0] at q
              exact q
    ) only [↓lt_eq]
theorem ok_is_table {f : Addr} {fd : FuncData} {f_is_integer : Addr} {fd_is_integer : FuncData} {f_is_within : Addr} {fd_is_within : FuncData}    (D : Dn K mg "is_table" s_is_table ["value"] f fd) (bi : Bi mg) (G_is_integer : FnOk P w K mg base CX0 1 f_is_integer fd_is_integer ["value"] spIsI) (D_is_integer : Dn K mg "is_integer" s_is_integer ["value"] f_is_integer fd_is_integer) (G_is_within : FnOk P w K mg base CX0 2 f_is_within fd_is_within ["value", "low", "high"] spWithin) (D_is_within : Dn K mg "is_within" s_is_within ["value", "low", "high"] f_is_within fd_is_within)    (g_COUNT_LIMIT : ∃ t, mg "COUNT_LIMIT" = some (.int 15 t)) : FnOk P w K mg base CX0 3 f fd ["value"] (spTblG K) := by
  refine lt_out ?_
  simp (disch := with_unfolding_all
    refine D.F.ok sc_is_table (fun vs H Q E h => ?_) (fun cdv A outer s H vs Q E hr h => ?_)
    · obtain ⟨a, t, m, rfl, _⟩ := h
      rfl
    · obtain ⟨a, t, m, rfl, h1, ok, q⟩ := h
      obtain ⟨t1, g_COUNT_LIMIT⟩ := g_COUNT_LIMIT
      have L1 := h1.1
      obtain ⟨o1, o2, o3, o4⟩ := ok
      refine ⟨_, (pss_cons (ps_if (PW.pt (pw_or (pt_not (pt_val (pe_callB call_isi (by rfl) bi.isinstance_ (by decide +kernel) (pa_cons (pv 0) (pa_cons (pe_bltn (v := .ty "tuple") (by rfl) bi.tuple_ (by decide +kernel) rfl) pa_nil))))) (pw_or1 (pt_cmpR op_ne (pe_callB cLen (by rfl) bi.len_ (by decide +kernel) (pa_cons (pv 0) pa_nil)) pe_int (nomark _)))))
   (pss_one (ps_ret pe_bl))
   pss_nil)
   (pss_cons (ps_asg (pv 0) (pg_tup rfl (pgs_cons (pg_name (i := 1) sc_is_table.nd rfl (Or.inl rfl)) (pgs_cons (pg_name (i := 2) sc_is_table.nd rfl (Or.inl rfl)) pgs_nil))))
   (pss_one (ps_ret (pe_and (pe_call G_is_integer (hr.mono (by first | decide | exact Nat.le_refl _)) (by rfl) D_is_integer.g D_is_integer.F.kp D_is_integer.b .nil pass0 (pa_cons (pv 1) pa_nil)) (pe_and (pe_cmpR op_ge (pv 1) pe_int (nomark _)) (pe_one (pe_call G_is_within (hr.mono (by first | decide | exact Nat.le_refl _)) (by rfl) D_is_within.g D_is_within.F.kp D_is_within.b .nil pass0 (pa_cons (pv 2) (pa_cons pe_int (pa_cons (pe_glob (v := .int 15) (by rfl) g_COUNT_LIMIT ⟨_, rfl⟩) pa_nil))))))))))), ?_⟩
      refine rd_start (σ := [some (.ref a), none, none]) rfl ?_
      walk_at "rd"
      refine isi_ty h1.2 (d := true) (by decide +kernel) ?_
      walk_at "rd"
      refine if_noN rfl ?_
      walk_at "rd"
      rw [decide_eq_true (show t.1 ≥ 0 from o1)]
      walk_at "rd"
      rw [decide_eq_true (show 1 ≤ t.2 ∧ t.2 ≤ 15 from ⟨o3, o4⟩)]
      exact q
    ) only [↓lt_eq]
theorem ok_is_tables {f : Addr} {fd : FuncData} {f_is_table : Addr} {fd_is_table : FuncData}    (D : Dn K mg "is_tables" s_is_tables ["value"] f fd) (bi : Bi mg) (G_is_table : FnOk P w K mg base CX0 3 f_is_table fd_is_table ["value"] (spTblG K)) (D_is_table : Dn K mg "is_table" s_is_table ["value"] f_is_table fd_is_table)     : FnOk P w K mg base CX0 4 f fd ["value"] (spTblsG K) := by
  refine lt_out ?_
  simp (disch := with_unfolding_all
    refine D.F.ok sc_is_tables (fun vs H Q E h => ?_) (fun cdv A outer s H vs Q E hr h => ?_)
    · obtain ⟨a, T, m, rfl, _⟩ := h
      rfl
    · obtain ⟨a, T, m, rfl, ⟨r0, r1, h0, h1, h2⟩, o1, o2, q⟩ := h
      have L1 := h0.1
      refine ⟨_, (pss_one (ps_ret (pe_and (pe_callB call_isi (by rfl) bi.isinstance_ (by decide +kernel) (pa_cons (pv 0) (pa_cons (pe_bltn (v := .ty "tuple") (by rfl) bi.tuple_ (by decide +kernel) rfl) pa_nil))) (pe_and (pe_cmpR op_eq (pe_callB cLen (by rfl) bi.len_ (by decide +kernel) (pa_cons (pv 0) pa_nil)) pe_int (nomark _)) (pe_and (pe_call G_is_table (hr.mono (by first | decide | exact Nat.le_refl _)) (by rfl) D_is_table.g D_is_table.F.kp D_is_table.b .nil pass0 (pa_cons (pe_ix ix_tup (pv 0) pe_int (fun _ _ => rfl)) pa_nil)) (pe_one (pe_call G_is_table (hr.mono (by first | decide | exact Nat.le_refl _)) (by rfl) D_is_table.g D_is_table.F.kp D_is_table.b .nil pass0 (pa_cons (pe_ix ix_tup (pv 0) pe_int (fun _ _ => rfl)) pa_nil)))))))), ?_⟩
      refine rd_start (σ := [some (.ref a)]) rfl ?_
      walk_at "rd"
      refine isi_ty h0.2 (d := true) (by decide +kernel) ?_
      walk_at "rd"
      refine if_yesD rfl ?_
      walk_at "rd"
      refine use_tblG h1 o1 ?_
      walk_at "rd"
      refine use_tblG h2 o2 ?_
      exact q
    ) only [↓lt_eq]
theorem ok_is_bits {f : Addr} {fd : FuncData}     (D : Dn K mg "is_bits" s_is_bits ["value"] f fd) (bi : Bi mg)      : FnOk P w K mg base CX0 1 f fd ["value"] spIsB := by
  refine lt_out ?_
  simp (disch := with_unfolding_all
    refine D.F.ok sc_is_bits (fun vs H Q E h => ?_) (fun cdv A outer s H vs Q E hr h => ?_)
    · obtain ⟨l, rfl, _⟩ := h
      rfl
    · obtain ⟨l, rfl, hb, hl, q⟩ := h
      have hl2 : l.length ≤ 16777216 := by omega
      refine ⟨_, (pss_one (ps_ret (pe_and (pe_callB call_isi (by rfl) bi.isinstance_ (by decide +kernel) (pa_cons (pv 0) (pa_cons (pe_bltn (v := .ty "str") (by rfl) bi.str_ (by decide +kernel) rfl) pa_nil))) (pe_one (pe_cmpR op_eq (pe_bm PySem.F.plainAttrs_str PySem.F.slot_str_strip PySem.F.type_str_strip mt_stripK (pv 0) (pa_cons pe_str pa_nil)) pe_str (nomark _)))))), ?_⟩
      refine rd_start (σ := [some (.str (SX.S l))]) rfl ?_
      walk_at "rd"
      exact rd_decT (congrArg V.str e_empty.symm) q
    ) only [↓lt_eq]
theorem ok_is_layout {f : Addr} {fd : FuncData} {f_is_within : Addr} {fd_is_within : FuncData} {f_is_joint : Addr} {fd_is_joint : FuncData}    (D : Dn K mg "is_layout" s_is_layout ["value"] f fd) (bi : Bi mg) (G_is_within : FnOk P w K mg base CX0 2 f_is_within fd_is_within ["value", "low", "high"] spWithin) (D_is_within : Dn K mg "is_within" s_is_within ["value", "low", "high"] f_is_within fd_is_within) (G_is_joint : FnOk P w K mg base CX0 3 f_is_joint fd_is_joint ["value"] spJ) (D_is_joint : Dn K mg "is_joint" s_is_joint ["value"] f_is_joint fd_is_joint)    (g_BLOCK_LIMIT : ∃ t, mg "BLOCK_LIMIT" = some (.int 64 t)) (g_LEVEL_LIMIT : ∃ t, mg "LEVEL_LIMIT" = some (.int 5 t)) (g_STEP_LIMIT : ∃ t, mg "STEP_LIMIT" = some (.int 64 t)) : FnOk P w K mg base CX0 4 f fd ["value"] spIsLay := by
  refine lt_out ?_
  simp (disch := with_unfolding_all
    refine D.F.ok sc_is_layout (fun vs H Q E h => ?_) (fun cdv A outer s H vs Q E hr h => ?_)
    · obtain ⟨a, j, d, rfl, _⟩ := h
      rfl
    · obtain ⟨a, j, d, rfl, ⟨h, hj⟩, hok, q⟩ := h
      obtain ⟨ln, w, sh, lv, st⟩ := d
      obtain ⟨k1, k2, k3, k4, k5, k6, k7, k8⟩ := hok
      dsimp only at k1 k2 k3 k4 k5 k6 k7 k8 h hj
      obtain ⟨t1, g_BLOCK_LIMIT⟩ := g_BLOCK_LIMIT
      obtain ⟨t2, g_LEVEL_LIMIT⟩ := g_LEVEL_LIMIT
      obtain ⟨t3, g_STEP_LIMIT⟩ := g_STEP_LIMIT
      refine ⟨_, (pss_cons (ps_if (PW.pt (pw_or (pt_not (pt_val (pe_callB call_isi (by rfl) bi.isinstance_ (by decide +kernel) (pa_cons (pv 0) (pa_cons (pe_bltn (v := .ty "tuple") (by rfl) bi.tuple_ (by decide +kernel) rfl) pa_nil))))) (pw_or1 (pt_cmpR op_ne (pe_callB cLen (by rfl) bi.len_ (by decide +kernel) (pa_cons (pv 0) pa_nil)) pe_int (nomark _)))))
   (pss_one (ps_ret pe_bl))
   pss_nil)
   (pss_cons (ps_asg (pv 0) (pg_tup rfl (pgs_cons (pg_name (i := 1) sc_is_layout.nd rfl (Or.inl rfl)) (pgs_cons (pg_name (i := 2) sc_is_layout.nd rfl (Or.inl rfl)) (pgs_cons (pg_name (i := 3) sc_is_layout.nd rfl (Or.inl rfl)) (pgs_cons (pg_name (i := 4) sc_is_layout.nd rfl (Or.inl rfl)) pgs_nil))))))
   (pss_cons (ps_if (PW.pt (pw_or (pt_not (pt_val (pe_call G_is_within (hr.mono (by first | decide | exact Nat.le_refl _)) (by rfl) D_is_within.g D_is_within.F.kp D_is_within.b .nil pass0 (pa_cons (pv 1) (pa_cons pe_int (pa_cons (pe_glob (v := .int 64) (by rfl) g_BLOCK_LIMIT ⟨_, rfl⟩) pa_nil)))))) (pw_or1 (pt_not (pt_val (pe_call G_is_joint (hr.mono (by first | decide | exact Nat.le_refl _)) (by rfl) D_is_joint.g D_is_joint.F.kp D_is_joint.b .nil pass0 (pa_cons (pv 2) pa_nil)))))))
   (pss_one (ps_ret pe_bl))
   pss_nil)
   (pss_one (ps_ret (pe_and (pe_call G_is_within (hr.mono (by first | decide | exact Nat.le_refl _)) (by rfl) D_is_within.g D_is_within.F.kp D_is_within.b .nil pass0 (pa_cons (pv 3) (pa_cons pe_int (pa_cons (pe_glob (v := .int 5) (by rfl) g_LEVEL_LIMIT ⟨_, rfl⟩) pa_nil)))) (pe_one (pe_call G_is_within (hr.mono (by first | decide | exact Nat.le_refl _)) (by rfl) D_is_within.g D_is_within.F.kp D_is_within.b .nil pass0 (pa_cons (pv 4) (pa_cons pe_int (pa_cons (pe_glob (v := .int 64) (by rfl) g_STEP_LIMIT ⟨_, rfl⟩) pa_nil))))))))))), ?_⟩
      refine rd_start (σ := [some (.ref a), none, none, none, none]) rfl ?_
      walk_at "rd"
      refine if_noN rfl ?_
      walk_at "rd"
      rw [decide_eq_true (show (1 : Int) ≤ (ln : Int) ∧ (ln : Int) ≤ 64 by omega)]
      walk_at "rd"
      have jr := JR.tup2 hj trivial trivial
      rw [jt_ok (j := (0, w, sh)) k3 k4 k5] at jr
      refine use_j jr (rd_bl ?_)
      walk_at "rd"
      rw [decide_eq_true (show (0 : Int) ≤ (lv : Int) ∧ (lv : Int) ≤ 5 by omega)]
      walk_at "rd"
      exact rd_decT (by omega) q
    ) only [↓lt_eq]
theorem ok_is_frame {f : Addr} {fd : FuncData} {f_is_layout : Addr} {fd_is_layout : FuncData} {f_is_within : Addr} {fd_is_within : FuncData} {f_is_bits : Addr} {fd_is_bits : FuncData}    (D : Dn K mg "is_frame" s_is_frame ["value"] f fd) (bi : Bi mg) (G_is_layout : FnOk P w K mg base CX0 4 f_is_layout fd_is_layout ["value"] spIsLay) (D_is_layout : Dn K mg "is_layout" s_is_layout ["value"] f_is_layout fd_is_layout) (G_is_within : FnOk P w K mg base CX0 2 f_is_within fd_is_within ["value", "low", "high"] spWithin) (D_is_within : Dn K mg "is_within" s_is_within ["value", "low", "high"] f_is_within fd_is_within) (G_is_bits : FnOk P w K mg base CX0 1 f_is_bits fd_is_bits ["value"] spIsB) (D_is_bits : Dn K mg "is_bits" s_is_bits ["value"] f_is_bits fd_is_bits)    (g_FRAME_ITEMS : ∃ t, mg "FRAME_ITEMS" = some (.int 7 t)) (g_MARK_MODULUS : ∃ t, mg "MARK_MODULUS" = some (.int 9973 t)) : FnOk P w K mg base CX0 5 f fd ["value"] (spIsFr K) := by
  refine lt_out ?_
  simp (disch := with_unfolding_all
    refine D.F.ok sc_is_frame (fun vs H Q E h => ?_) (fun cdv A outer s H vs Q E hr h => ?_)
    · obtain ⟨v, d, ns, T, rfl, _⟩ := h
      rfl
    · obtain ⟨v, d, ns, T, rfl, ⟨a, j, rfl, h, hj⟩, ok, q⟩ := h
      obtain ⟨bl, bb⟩ := bitsF_len ok
      obtain ⟨m0, m1⟩ := markF_bound ns
      unfold FrAt at h
      obtain ⟨t1, g_FRAME_ITEMS⟩ := g_FRAME_ITEMS
      obtain ⟨t2, g_MARK_MODULUS⟩ := g_MARK_MODULUS
      refine ⟨_, (pss_cons (ps_if (PW.pt (pw_or (pt_not (pt_val (pe_callB call_isi (by rfl) bi.isinstance_ (by decide +kernel) (pa_cons (pv 0) (pa_cons (pe_bltn (v := .ty "tuple") (by rfl) bi.tuple_ (by decide +kernel) rfl) pa_nil))))) (pw_or (pt_cmpR op_ne (pe_callB cLen (by rfl) bi.len_ (by decide +kernel) (pa_cons (pv 0) pa_nil)) (pe_glob (v := .int 7) (by rfl) g_FRAME_ITEMS ⟨_, rfl⟩) (nomark _)) (pw_or1 (pt_cmpR op_ne (pe_ix ix_tup (pv 0) pe_int (fun _ _ => rfl)) pe_str (nomark _))))))
   (pss_one (ps_ret pe_bl))
   pss_nil)
   (pss_cons (ps_asg (pe_slice sl_tup (pv 0) (po_some pe_int) po_none) (pg_tup rfl (pgs_cons (pg_name (i := 1) sc_is_frame.nd rfl (Or.inl rfl)) (pgs_cons (pg_name (i := 2) sc_is_frame.nd rfl (Or.inl rfl)) pgs_nil))))
   (pss_one (ps_ret (pe_and (pe_call G_is_layout (hr.mono (by first | decide | exact Nat.le_refl _)) (by rfl) D_is_layout.g D_is_layout.F.kp D_is_layout.b .nil pass0 (pa_cons (pe_slice sl_tup (pv 0) (po_some pe_int) (po_some pe_int)) pa_nil)) (pe_and (pe_call G_is_within (hr.mono (by first | decide | exact Nat.le_refl _)) (by rfl) D_is_within.g D_is_within.F.kp D_is_within.b .nil pass0 (pa_cons (pv 1) (pa_cons pe_int (pa_cons (pe_op op_sub (pe_glob (v := .int 9973) (by rfl) g_MARK_MODULUS ⟨_, rfl⟩) pe_int) pa_nil)))) (pe_one (pe_call G_is_bits (hr.mono (by first | decide | exact Nat.le_refl _)) (by rfl) D_is_bits.g D_is_bits.F.kp D_is_bits.b .nil pass0 (pa_cons (pv 2) pa_nil))))))))), ?_⟩
      refine rd_start (σ := [some (.ref a), none, none]) rfl ?_
      walk_at "rd"
      refine if_noN rfl ?_
      walk_at "rd"
      refine if_noN rfl ?_
      walk_at "rd"
      refine rd_slTp (SqT.of h) (ys := [.int (markF ns), .str (SX.S (bitsF d ns T))]) rfl (show ¬ (HT.sIx 7 0 (some 5) = 0 ∧ HT.sIx 7 7 none = 7) by decide) fun p1 hp1 => ?_
      walk_at "rd"
      refine rd_slTp (SqT.of (look_new hp1 h)) (ys := [.int (d.1 : Nat), .ref j, .int (d.2.2.2.1 : Nat), .int (d.2.2.2.2 : Nat)]) rfl (show ¬ (HT.sIx 7 0 (some 1) = 0 ∧ HT.sIx 7 7 (some 5) = 7) by decide) fun p2 hp2 => ?_
      have s2 : Same H (upd (upd H p1 (.tup [.int (markF ns), .str (SX.S (bitsF d ns T))])) p2 (.tup [.int (d.1 : Nat), .ref j, .int (d.2.2.2.1 : Nat), .int (d.2.2.2.2 : Nat)])) := (same_new hp1).trans (same_new hp2)
      walk_at "rd"
      refine use_islay (d := d) ⟨upd_same, s2 _ _ hj⟩ ok.1 ?_
      walk_at "rd"
      rw [decide_eq_true (show (0 : Int) ≤ markF ns ∧ markF ns ≤ 9973 - 1 by omega)]
      walk_at "rd"
      exact use_isb bb bl (q _ s2)
    ) only [↓lt_eq]
theorem ok_is_state {f : Addr} {fd : FuncData} {f_is_tables : Addr} {fd_is_tables : FuncData}    (D : Dn K mg "is_state" s_is_state ["value"] f fd) (bi : Bi mg) (G_is_tables : FnOk P w K mg base CX0 4 f_is_tables fd_is_tables ["value"] (spTblsG K)) (D_is_tables : Dn K mg "is_tables" s_is_tables ["value"] f_is_tables fd_is_tables)     : FnOk P w K mg base CX0 5 f fd ["value"] (spIsSt K) := by
  refine lt_out ?_
  simp (disch := with_unfolding_all
    refine D.F.ok sc_is_state (fun vs H Q E h => ?_) (fun cdv A outer s H vs Q E hr h => ?_)
    · obtain ⟨v, r, rfl, _⟩ := h
      rfl
    · obtain ⟨v, r, rfl, hr1, ok, q⟩ := h
      cases r with
      | st T =>
        obtain ⟨a, t, rfl, h, hT⟩ := hr1
        refine ⟨_, (pss_one (ps_ret (pe_and (pe_callB call_isi (by rfl) bi.isinstance_ (by decide +kernel) (pa_cons (pv 0) (pa_cons (pe_bltn (v := .ty "tuple") (by rfl) bi.tuple_ (by decide +kernel) rfl) pa_nil))) (pe_and (pe_cmpR op_eq (pe_callB cLen (by rfl) bi.len_ (by decide +kernel) (pa_cons (pv 0) pa_nil)) pe_int (nomark _)) (pe_and (pe_cmpR op_eq (pe_ix ix_tup (pv 0) pe_int (fun _ _ => rfl)) pe_str (nomark _)) (pe_one (pe_call G_is_tables (hr.mono (by first | decide | exact Nat.le_refl _)) (by rfl) D_is_tables.g D_is_tables.F.kp D_is_tables.b .nil pass0 (pa_cons (pe_ix ix_tup (pv 0) pe_int (fun _ _ => rfl)) pa_nil)))))))), ?_⟩
        refine rd_start (σ := [some (.ref a)]) rfl ?_
        walk_at "rd"
        refine if_yesD rfl ?_
        walk_at "rd"
        refine if_yesD rfl ?_
        walk_at "rd"
        exact use_tblsG hT ok.1 ok.2 q
      | fr d ns T =>
        obtain ⟨a, j, rfl, h, hj⟩ := hr1
        unfold FrAt at h
        refine ⟨_, (pss_one (ps_ret (pe_and (pe_callB call_isi (by rfl) bi.isinstance_ (by decide +kernel) (pa_cons (pv 0) (pa_cons (pe_bltn (v := .ty "tuple") (by rfl) bi.tuple_ (by decide +kernel) rfl) pa_nil))) (pe_and (pe_cmpR op_eq (pe_callB cLen (by rfl) bi.len_ (by decide +kernel) (pa_cons (pv 0) pa_nil)) pe_int (nomark _)) (pe_and (pe_cmpR op_eq (pe_ix ix_tup (pv 0) pe_int (fun _ _ => rfl)) pe_str (nomark _)) (pe_one (pe_call G_is_tables (hr.mono (by first | decide | exact Nat.le_refl _)) (by rfl) D_is_tables.g D_is_tables.F.kp D_is_tables.b .nil pass0 (pa_cons (pe_ix ix_tup (pv 0) pe_int (fun _ _ => rfl)) pa_nil)))))))), ?_⟩
        refine rd_start (σ := [some (.ref a)]) rfl ?_
        walk_at "rd"
        refine if_noD (fun z => absurd (show (7 : Int) = 2 from V.int.inj z) (by decide)) ?_
        exact q
    ) only [↓lt_eq]
theorem ok_is_record {f : Addr} {fd : FuncData} {f_is_state : Addr} {fd_is_state : FuncData} {f_is_frame : Addr} {fd_is_frame : FuncData}    (D : Dn K mg "is_record" s_is_record ["value"] f fd) (bi : Bi mg) (G_is_state : FnOk P w K mg base CX0 5 f_is_state fd_is_state ["value"] (spIsSt K)) (D_is_state : Dn K mg "is_state" s_is_state ["value"] f_is_state fd_is_state) (G_is_frame : FnOk P w K mg base CX0 5 f_is_frame fd_is_frame ["value"] (spIsFr K)) (D_is_frame : Dn K mg "is_frame" s_is_frame ["value"] f_is_frame fd_is_frame)     : FnOk P w K mg base CX0 6 f fd ["value"] (spIsRc K) := by
  refine lt_out ?_
  simp (disch := with_unfolding_all
    refine D.F.ok sc_is_record (fun vs H Q E h => ?_) (fun cdv A outer s H vs Q E hr h => ?_)
    · obtain ⟨v, r, rfl, _⟩ := h
      rfl
    · obtain ⟨v, r, rfl, hr1, ok, q⟩ := h
      refine ⟨_, (pss_one (ps_ret (pe_or (pe_call G_is_state (hr.mono (by first | decide | exact Nat.le_refl _)) (by rfl) D_is_state.g D_is_state.F.kp D_is_state.b .nil pass0 (pa_cons (pv 0) pa_nil)) (pe_one (pe_call G_is_frame (hr.mono (by first | decide | exact Nat.le_refl _)) (by rfl) D_is_frame.g D_is_frame.F.kp D_is_frame.b .nil pass0 (pa_cons (pv 0) pa_nil)))))), ?_⟩
      refine rd_start (σ := [some v]) rfl ?_
      walk_at "rd"
      refine use_isst hr1 ok ?_
      cases r with
      | st T =>
        walk_at "rd"
        exact q _ (Same.refl _)
      | fr d ns T =>
        refine rd_bl (if_no rfl ?_)
        walk_at "rd"
        exact use_isfr hr1 ok q
    ) only [↓lt_eq]
theorem ok_check_within {f : Addr} {fd : FuncData} {f_is_within : Addr} {fd_is_within : FuncData}    (D : Dn K mg "check_within" s_check_within ["value", "low", "high"] f fd) (bi : Bi mg) (G_is_within : FnOk P w K mg base CX0 2 f_is_within fd_is_within ["value", "low", "high"] spWithin) (D_is_within : Dn K mg "is_within" s_is_within ["value", "low", "high"] f_is_within fd_is_within)     : FnOk P w K mg base CX0 3 f fd ["value", "low", "high"] spCkW := by
  refine lt_out ?_
  simp (disch := with_unfolding_all
    refine D.F.ok sc_check_within (fun vs H Q E h => ?_) (fun cdv A outer s H vs Q E hr h => ?_)
    · obtain ⟨i, lo, hi, rfl, _⟩ := h
      rfl
    · obtain ⟨i, lo, hi, rfl, h1, h2, q⟩ := h
      refine ⟨_, (pss_one (ps_if (pt_not (pt_val (pe_call G_is_within (hr.mono (by first | decide | exact Nat.le_refl _)) (by rfl) D_is_within.g D_is_within.F.kp D_is_within.b .nil pass0 (pa_cons (pv 0) (pa_cons (pv 1) (pa_cons (pv 2) pa_nil))))))
   (pss_one ps_never)
   pss_nil)), ?_⟩
      refine rd_start (σ := [some (.int i), some (.int lo), some (.int hi)]) rfl ?_
      walk_at "rd"
      refine rd_iteN (p := lo ≤ i ∧ i ≤ hi) (fun c => (c ⟨h1, h2⟩).elim) (fun c => ?_)
      exact q
    ) only [↓lt_eq]
theorem ok_check_integer {f : Addr} {fd : FuncData} {f_is_integer : Addr} {fd_is_integer : FuncData}    (D : Dn K mg "check_integer" s_check_integer ["value"] f fd) (bi : Bi mg) (G_is_integer : FnOk P w K mg base CX0 1 f_is_integer fd_is_integer ["value"] spIsI) (D_is_integer : Dn K mg "is_integer" s_is_integer ["value"] f_is_integer fd_is_integer)     : FnOk P w K mg base CX0 2 f fd ["value"] spCkI := by
  refine lt_out ?_
  simp (disch := with_unfolding_all
    refine D.F.ok sc_check_integer (fun vs H Q E h => ?_) (fun cdv A outer s H vs Q E hr h => ?_)
    · obtain ⟨i, rfl, _⟩ := h
      rfl
    · obtain ⟨i, rfl, q⟩ := h
      refine ⟨_, (pss_one (ps_if (pt_not (pt_val (pe_call G_is_integer (hr.mono (by first | decide | exact Nat.le_refl _)) (by rfl) D_is_integer.g D_is_integer.F.kp D_is_integer.b .nil pass0 (pa_cons (pv 0) pa_nil))))
   (pss_one ps_never)
   pss_nil)), ?_⟩
      refine rd_start (σ := [some (.int i)]) rfl ?_
      walk_at "rd"
      exact q
    ) only [↓lt_eq]
theorem ok_check_items {f : Addr} {fd : FuncData} {f_is_integer : Addr} {fd_is_integer : FuncData}    (D : Dn K mg "check_items" s_check_items ["values"] f fd) (bi : Bi mg) (G_is_integer : FnOk P w K mg base CX0 1 f_is_integer fd_is_integer ["value"] spIsI) (D_is_integer : Dn K mg "is_integer" s_is_integer ["value"] f_is_integer fd_is_integer)     : FnOk P w K mg base CX0 2 f fd ["values"] (spItems K) := by
  refine lt_out ?_
  simp (disch := with_unfolding_all
    refine D.F.ok sc_check_items (fun vs H Q E h => ?_) (fun cdv A outer s H vs Q E hr h => ?_)
    · obtain ⟨a, ns, rfl, _⟩ := h
      rfl
    · obtain ⟨a, ns, rfl, hS, q⟩ := h
      refine ⟨_, (pss_one (ps_for PassesOwn.never rfl (pi_enum (by rfl) bi.enumerate_ (pa_cons (pv 0) pa_nil)) (pg_tup rfl (pgs_cons (pg_name (i := 1) sc_check_items.nd rfl (Or.inl rfl)) (pgs_cons (pg_name (i := 2) sc_check_items.nd rfl (Or.inl rfl)) pgs_nil)))
   (pss_one (ps_if (pt_not (pt_val (pe_call G_is_integer (hr.mono (by first | decide | exact Nat.le_refl _)) (by rfl) D_is_integer.g D_is_integer.F.kp D_is_integer.b .nil pass0 (pa_cons (pv 2) pa_nil))))
   (pss_one ps_never)
   pss_nil)))), ?_⟩
      refine rd_start (σ := [some (.ref a), none, none]) rfl ?_
      walk_at "rd"
      refine rd_lpE hS ?_
      refine for_enum (xs := ns.map V.int) (fun i σ H' => ∃ t u, σ = [some (.ref a), t, u] ∧ Same H H') ⟨none, none, rfl, Same.refl _⟩ (fun i σ H1 _ hI => ?_) (fun i v σ H1 T hv hI hT => ?_) (fun σ H1 hI => ?_)
      · obtain ⟨t, u, rfl, hs⟩ := hI
        exact hs.seq hS
      · obtain ⟨t, u, rfl, hs⟩ := hI
        obtain ⟨z, rfl⟩ : ∃ z, v = .int z := by
          rw [List.getElem?_map] at hv
          cases g : ns[i]? with
          | none => rw [g] at hv; cases hv
          | some z => rw [g] at hv; exact ⟨z, (Option.some.inj hv).symm⟩
        walk_at "rd"
        exact ⟨_, _, rfl, hs.trans (same_new hT)⟩
      · obtain ⟨t, u, rfl, hs⟩ := hI
        walk_at "rd"
        exact q _ hs
    ) only [↓lt_eq]
theorem ok_check_block {f : Addr} {fd : FuncData} {f_check_items : Addr} {fd_check_items : FuncData}    (D : Dn K mg "check_block" s_check_block ["values", "least"] f fd) (bi : Bi mg) (G_check_items : FnOk P w K mg base CX0 2 f_check_items fd_check_items ["values"] (spItems K)) (D_check_items : Dn K mg "check_items" s_check_items ["values"] f_check_items fd_check_items)    (g_BLOCK_LIMIT : ∃ t, mg "BLOCK_LIMIT" = some (.int 64 t)) : FnOk P w K mg base CX0 3 f fd ["values", "least"] spBlock := by
  refine lt_out ?_
  simp (disch := with_unfolding_all
    refine D.F.ok sc_check_block (fun vs H Q E h => ?_) (fun cdv A outer s H vs Q E hr h => ?_)
    · obtain ⟨a, ns, least, rfl, _⟩ := h
      rfl
    · obtain ⟨a, ns, least, rfl, hS, h1, h2, q⟩ := h
      obtain ⟨t64, g_BLOCK_LIMIT⟩ := g_BLOCK_LIMIT
      refine ⟨_, (pss_cons (ps_if (PW.pt (pw_or (pt_not (pt_val (pe_callB call_isi (by rfl) bi.isinstance_ (by decide +kernel) (pa_cons (pv 0) (pa_cons (pe_bltn (v := .ty "list") (by rfl) bi.list_ (by decide +kernel) rfl) pa_nil))))) (pw_or1 (pt_not (pt_chain op_le op_le (pv 1) (pe_callB cLen (by rfl) bi.len_ (by decide +kernel) (pa_cons (pv 0) pa_nil)) (pe_glob (v := .int 64) (by rfl) g_BLOCK_LIMIT ⟨_, rfl⟩))))))
   (pss_one ps_never)
   pss_nil)
   (pss_one (ps_expr (pe_call G_check_items (hr.mono (by first | decide | exact Nat.le_refl _)) (by rfl) D_check_items.g D_check_items.F.kp D_check_items.b .nil pass0 (pa_cons (pv 0) pa_nil))))), ?_⟩
      refine rd_start (σ := [some (.ref a), some (.int least)]) rfl ?_
      walk_at "rd"
      refine if_yesD (by rw [List.length_map]; exact h1) ?_
      walk_at "rd"
      refine if_noN (by rw [List.length_map]; omega) ?_
      walk_at "rd"
      exact q _ (by assumption)
    ) only [↓lt_eq]
theorem ok_coarse_count {f : Addr} {fd : FuncData} {f_check_within : Addr} {fd_check_within : FuncData}    (D : Dn K mg "coarse_count" s_coarse_count ["length", "levels"] f fd) (bi : Bi mg) (G_check_within : FnOk P w K mg base CX0 3 f_check_within fd_check_within ["value", "low", "high"] spCkW) (D_check_within : Dn K mg "check_within" s_check_within ["value", "low", "high"] f_check_within fd_check_within)    (g_BLOCK_LIMIT : ∃ t, mg "BLOCK_LIMIT" = some (.int 64 t)) (g_LEVEL_LIMIT : ∃ t, mg "LEVEL_LIMIT" = some (.int 5 t)) : FnOk P w K mg base CX0 4 f fd ["length", "levels"] spCoarse := by
  refine lt_out ?_
  simp (disch := with_unfolding_all
    refine D.F.ok sc_coarse_count (fun vs H Q E h => ?_) (fun cdv A outer s H vs Q E hr h => ?_)
    · obtain ⟨n, k, rfl, _⟩ := h
      rfl
    · obtain ⟨n, k, rfl, h1, h2, h3, q⟩ := h
      obtain ⟨t1, g_BLOCK_LIMIT⟩ := g_BLOCK_LIMIT
      obtain ⟨t2, g_LEVEL_LIMIT⟩ := g_LEVEL_LIMIT
      refine ⟨_, (pss_cons (ps_expr (pe_call G_check_within (hr.mono (by first | decide | exact Nat.le_refl _)) (by rfl) D_check_within.g D_check_within.F.kp D_check_within.b .nil pass0 (pa_cons (pv 0) (pa_cons pe_int (pa_cons (pe_glob (v := .int 64) (by rfl) g_BLOCK_LIMIT ⟨_, rfl⟩) pa_nil)))))
   (pss_cons (ps_expr (pe_call G_check_within (hr.mono (by first | decide | exact Nat.le_refl _)) (by rfl) D_check_within.g D_check_within.F.kp D_check_within.b .nil pass0 (pa_cons (pv 1) (pa_cons pe_int (pa_cons (pe_glob (v := .int 5) (by rfl) g_LEVEL_LIMIT ⟨_, rfl⟩) pa_nil)))))
   (pss_cons (ps_set (i := 2) sc_coarse_count.nd rfl (Or.inl rfl) (pv 0))
   (pss_cons (ps_for PassesOwn.never rfl (pi_range1 (by rfl) bi.range_ (pa_cons (pv 1) pa_nil)) (pg_name (i := 3) sc_coarse_count.nd rfl (Or.inl rfl))
   (pss_one (ps_set (i := 2) sc_coarse_count.nd rfl (Or.inl rfl) (pe_op op_fdiv (pe_op op_add (pv 2) pe_int) pe_int))))
   (pss_one (ps_ret (pv 2))))))), ?_⟩
      refine rd_start (σ := [some (.int (n : Int)), some (.int (k : Int)), none, none]) rfl ?_
      walk_at "rd"
      refine for_range (lo := 0) (n := ((k : Nat) : Int).toNat) (fun i σ H' => ∃ t, σ = [some (.int (n : Int)), some (.int (k : Int)), some (.int (cc n i : Nat)), t] ∧ H' = H) ⟨none, rfl, rfl⟩ (fun i σ H1 hi hI => ?_) (fun σ H1 hI => ?_)
      · obtain ⟨t, rfl, rfl⟩ := hI
        walk_at "rd"
        refine ⟨some (.int (0 + (i : Int))), ?_, rfl⟩
        rw [show ((cc n (i + 1) : Nat) : Int) = ((cc n i : Nat) + 1) / 2 by show (((cc n i + 1) / 2 : Nat) : Int) = _; omega]
        rfl
      · obtain ⟨t, rfl, rfl⟩ := hI
        walk_at "rd"
        exact q
    ) only [↓lt_eq]
theorem ok_parameter {f : Addr} {fd : FuncData} {f_is_table : Addr} {fd_is_table : FuncData}    (D : Dn K mg "parameter" s_parameter ["table"] f fd) (bi : Bi mg) (G_is_table : FnOk P w K mg base CX0 3 f_is_table fd_is_table ["value"] (spTblG K)) (D_is_table : Dn K mg "is_table" s_is_table ["value"] f_is_table fd_is_table)     : FnOk P w K mg base CX0 4 f fd ["table"] (spParG K) := by
  refine lt_out ?_
  simp (disch := with_unfolding_all
    refine D.F.ok sc_parameter (fun vs H Q E h => ?_) (fun cdv A outer s H vs Q E hr h => ?_)
    · obtain ⟨a, t, m, rfl, _⟩ := h
      rfl
    · obtain ⟨a, t, m, rfl, h1, ok, q⟩ := h
      have L1 := h1.1
      refine ⟨_, (pss_cons (ps_if (pt_not (pt_val (pe_call G_is_table (hr.mono (by first | decide | exact Nat.le_refl _)) (by rfl) D_is_table.g D_is_table.F.kp D_is_table.b .nil pass0 (pa_cons (pv 0) pa_nil))))
   (pss_one ps_never)
   pss_nil)
   (pss_cons (ps_asg (pv 0) (pg_tup rfl (pgs_cons (pg_name (i := 1) sc_parameter.nd rfl (Or.inl rfl)) (pgs_cons (pg_name (i := 2) sc_parameter.nd rfl (Or.inl rfl)) pgs_nil))))
   (pss_cons (ps_set (i := 3) sc_parameter.nd rfl (Or.inl rfl) (pe_op op_fdiv (pe_op op_sub (pe_op op_add (pv 1) (pv 2)) pe_int) (pv 2)))
   (pss_one (ps_ret (pe_bits (pe_op op_sub (pe_callB (cMax rfl) (by rfl) bi.max_ (by decide +kernel) (pa_cons (pv 3) (pa_cons pe_int pa_nil))) pe_int))))))), ?_⟩
      refine rd_start (σ := [some (.ref a), none, none, none]) rfl ?_
      walk_at "rd"
      refine use_tblG h1 ok ?_
      obtain ⟨o1, o2, o3, o4⟩ := ok
      walk_at "rd"
      exact q
    ) only [↓lt_eq]
theorem ok_table_behind {f : Addr} {fd : FuncData}     (D : Dn K mg "table_behind" s_table_behind ["table", "code"] f fd) (bi : Bi mg)     (g_COUNT_LIMIT : ∃ t, mg "COUNT_LIMIT" = some (.int 15 t)) (g_HALVED_COUNT : ∃ t, mg "HALVED_COUNT" = some (.int 8 t)) : FnOk P w K mg base CX0 1 f fd ["table", "code"] (spBehind K) := by
  refine lt_out ?_
  simp (disch := with_unfolding_all
    refine D.F.ok sc_table_behind (fun vs H Q E h => ?_) (fun cdv A outer s H vs Q E hr h => ?_)
    · obtain ⟨a, t, m, u, rfl, _⟩ := h
      rfl
    · obtain ⟨a, t, m, u, rfl, h1, ok, q⟩ := h
      obtain ⟨t1, g_COUNT_LIMIT⟩ := g_COUNT_LIMIT
      obtain ⟨t2, g_HALVED_COUNT⟩ := g_HALVED_COUNT
      have L1 := h1.1
      refine ⟨_, (pss_cons (ps_par (i := 2) (j := 3) rfl sc_table_behind.nd rfl rfl (by decide) rfl rfl (pa_cons (pe_op op_add (pe_ix ix_tup (pv 0) pe_int (fun _ _ => rfl)) (pv 1)) (pa_cons (pe_op op_add (pe_ix ix_tup (pv 0) pe_int (fun _ _ => rfl)) pe_int) pa_nil)) rfl)
   (pss_cons (ps_if (pt_cmpR op_gt (pv 3) (pe_glob (v := .int 15) (by rfl) g_COUNT_LIMIT ⟨_, rfl⟩) (nomark _))
   (pss_one (ps_ret (pe_tup (pa_cons (pe_op op_fdiv (pv 2) pe_int) (pa_cons (pe_glob (v := .int 8) (by rfl) g_HALVED_COUNT ⟨_, rfl⟩) pa_nil)))))
   pss_nil)
   (pss_one (ps_ret (pe_tup (pa_cons (pv 2) (pa_cons (pv 3) pa_nil))))))), ?_⟩
      refine rd_start (σ := [some (.ref a), some (.int (u : Int)), none, none]) rfl ?_
      walk_at "rd"
      refine rd_iteD (fun c => ?_) (fun c => ?_)
      · walk_at "rd"
        rename_i p hp
        have e : tbB t u = ((t.1 + (u : Int)) / 2, 8) := if_pos c
        rw [e] at q
        exact q p hp
      · walk_at "rd"
        rename_i p hp
        have e : tbB t u = (t.1 + (u : Int), t.2 + 1) := if_neg c
        rw [e] at q
        exact q p hp
    ) only [↓lt_eq]
theorem ok_code_number {f : Addr} {fd : FuncData}     (D : Dn K mg "code_number" s_code_number ["number"] f fd) (bi : Bi mg)      : FnOk P w K mg base CX0 1 f fd ["number"] spCode := by
  refine lt_out ?_
  simp (disch := with_unfolding_all
    refine D.F.ok sc_code_number (fun vs H Q E h => ?_) (fun cdv A outer s H vs Q E hr h => ?_)
    · obtain ⟨n, rfl, _⟩ := h
      rfl
    · obtain ⟨n, rfl, q⟩ := h
      refine ⟨_, (pss_one (ps_ret (pe_ifExp (pt_cmpR op_ge (pv 0) pe_int (nomark _)) (pe_op op_mul pe_int (pv 0)) (pe_op op_sub (pe_op op_mul (pe_un un_neg pe_int) (pv 0)) pe_int)))), ?_⟩
      refine rd_start (σ := [some (.int n)]) rfl ?_
      walk_at "rd"
      refine rd_iteD (fun c => ?_) (fun c => ?_)
      · walk_at "rd"
        have e : codeU n = 2 * n := if_pos c
        rw [e] at q
        exact q
      · walk_at "rd"
        have e : codeU n = -2 * n - 1 := if_neg c
        rw [e] at q
        exact q
    ) only [↓lt_eq]
theorem ok_number_with {f : Addr} {fd : FuncData}     (D : Dn K mg "number_with" s_number_with ["code"] f fd) (bi : Bi mg)      : FnOk P w K mg base CX0 1 f fd ["code"] spNumW := by
  refine lt_out ?_
  simp (disch := with_unfolding_all
    refine D.F.ok sc_number_with (fun vs H Q E h => ?_) (fun cdv A outer s H vs Q E hr h => ?_)
    · obtain ⟨u, rfl, _⟩ := h
      rfl
    · obtain ⟨u, rfl, q⟩ := h
      refine ⟨_, (pss_one (ps_ret (pe_ifExp (pt_cmpR op_eq (pe_op op_mod (pv 0) pe_int) pe_int (nomark _)) (pe_op op_fdiv (pv 0) pe_int) (pe_op op_sub (pe_un un_neg (pe_op op_fdiv (pv 0) pe_int)) pe_int)))), ?_⟩
      refine rd_start (σ := [some (.int (u : Int))]) rfl ?_
      walk_at "rd"
      refine rd_iteD (fun c => ?_) (fun c => ?_)
      · have e : unU u = ((u / 2 : Nat) : Int) := if_pos (by have := V.int.inj c; omega)
        rw [e, ← half_nat] at q
        walk_at "rd"
        exact q
      · have e : unU u = -((u / 2 : Nat) : Int) - 1 := if_neg (fun z => c (congrArg V.int (by omega)))
        rw [e, ← half_nat] at q
        walk_at "rd"
        exact q
    ) only [↓lt_eq]
theorem ok_read_code {f : Addr} {fd : FuncData}     (D : Dn K mg "read_code" s_read_code ["bits", "place", "k"] f fd) (bi : Bi mg)     (g_LONG_FORM : ∃ t, mg "LONG_FORM" = some (.int 20 t)) : FnOk P w K mg base CX0 1 f fd ["bits", "place", "k"] spRdC := by
  refine lt_out ?_
  simp (disch := with_unfolding_all
    refine D.F.ok sc_read_code (fun vs H Q E h => ?_) (fun cdv A outer s H vs Q E hr h => ?_)
    · obtain ⟨l, pl, k, rfl, _⟩ := h
      rfl
    · obtain ⟨l, pl, k, rfl, hb, hl, hpl, hk, ho, q1, q2⟩ := h
      obtain ⟨t1, g_LONG_FORM⟩ := g_LONG_FORM
      refine ⟨_, (pss_cons (ps_set (i := 3) sc_read_code.nd rfl (Or.inl rfl) (pe_bm PySem.F.plainAttrs_str PySem.F.slot_str_find PySem.F.type_str_find mt_find3K (pv 0) (pa_cons pe_str (pa_cons (pv 1) pa_nil))))
   (pss_cons (ps_if (pt_cmpR op_lt (pv 3) pe_int (nomark _))
   (pss_one (ps_ret pe_non))
   pss_nil)
   (pss_cons (ps_set (i := 4) sc_read_code.nd rfl (Or.inl rfl) (pe_op op_sub (pv 3) (pv 1)))
   (pss_cons (ps_set (i := 5) sc_read_code.nd rfl (Or.inl rfl) (pe_ifExp (pt_cmpR op_lt (pv 4) (pe_glob (v := .int 20) (by rfl) g_LONG_FORM ⟨_, rfl⟩) (nomark _)) (pv 2) (pe_op op_add (pe_op op_sub (pv 4) (pe_glob (v := .int 20) (by rfl) g_LONG_FORM ⟨_, rfl⟩)) pe_int)))
   (pss_cons (ps_set (i := 6) sc_read_code.nd rfl (Or.inl rfl) (pe_op op_add (pe_op op_add (pv 3) pe_int) (pv 5)))
   (pss_cons (ps_if (pt_cmpR op_gt (pv 6) (pe_callB cLen (by rfl) bi.len_ (by decide +kernel) (pa_cons (pv 0) pa_nil)) (nomark _))
   (pss_one (ps_ret pe_non))
   pss_nil)
   (pss_cons (ps_set (i := 7) sc_read_code.nd rfl (Or.inl rfl) (pe_slice C8.sl_txt (pv 0) (po_some (pe_op op_add (pv 3) pe_int)) (po_some (pv 6))))
   (pss_cons (ps_set (i := 8) sc_read_code.nd rfl (Or.inl rfl) (pe_callTy call_intB (by rfl) bi.int_ (by decide +kernel) (pa_cons (pe_op op_addT pe_str (pv 7)) (pa_cons pe_int pa_nil))))
   (pss_cons (ps_if (pt_cmpR op_lt (pv 4) (pe_glob (v := .int 20) (by rfl) g_LONG_FORM ⟨_, rfl⟩) (nomark _))
   (pss_one (ps_ret (pe_tup (pa_cons (pe_op op_add (pe_op op_shl (pv 4) (pv 2)) (pv 8)) (pa_cons (pv 6) pa_nil)))))
   pss_nil)
   (pss_cons (ps_if (PW.pt (pw_or (pt_cmpR op_eq (pe_ix ix_str (pv 7) pe_int (fun _ _ => rfl)) pe_str (nomark _)) (pw_or1 (pt_cmpR op_lt (pe_op op_shr (pv 8) (pv 2)) (pe_glob (v := .int 20) (by rfl) g_LONG_FORM ⟨_, rfl⟩) (nomark _)))))
   (pss_one (ps_ret pe_non))
   pss_nil)
   (pss_one (ps_ret (pe_tup (pa_cons (pv 8) (pa_cons (pv 6) pa_nil))))))))))))))), ?_⟩
      refine rd_start (σ := [some (.str (SX.S l)), some (.int (pl : Int)), some (.int (k : Int)), none, none, none, none, none, none]) rfl ?_
      walk_at "rd"
      unfold rdC at q1 q2
      unfold fzI
      generalize onesL (l.drop pl) = o at ho q1 q2 ⊢
      by_cases hz : pl + o < l.length
      · rw [if_pos hz] at q1 q2 ⊢
        walk_at "rd"
        refine if_noD (by omega) ?_
        walk_at "rd"
        have eo : ((pl + o : Nat) : Int) - (pl : Int) = ((o : Nat) : Int) := by omega
        rw [eo]
        by_cases c : o < 20
        · rw [if_pos c] at q1 q2
          refine if_yesD (by omega) ?_
          walk_at "rd"
          rw [show ((pl + o : Nat) : Int) + 1 + (k : Int) = ((pl + o + 1 + k : Nat) : Int) by omega]
          by_cases d : l.length < pl + o + 1 + k
          · refine if_yesD (by omega) ?_
            walk_at "rd"
            exact q1 (by rw [if_pos d])
          · rw [if_neg d, if_pos c] at q2
            refine if_noD (by omega) ?_
            walk_at "rd"
            rw [show ((pl + o : Nat) : Int) + 1 = ((pl + o + 1 : Nat) : Int) by omega]
            refine rd_slSM (by omega) (by omega) (by omega) ?_
            rw [show pl + o + 1 + k - (pl + o + 1) = k by omega]
            have hdb : ∀ x ∈ (l.drop (pl + o + 1)).take k, IsB x := fun x hx => hb x (List.mem_of_mem_drop (List.mem_of_mem_take hx))
            have hdl : ((l.drop (pl + o + 1)).take k).length ≤ 600 := by rw [List.length_take]; omega
            generalize (l.drop (pl + o + 1)).take k = dg at q2 hdb hdl ⊢
            walk_at "rd"
            refine rd_intB (l := [48] ++ dg) (by simp) (by simp; omega) (fun x hx => ?_) ?_
            · rcases List.mem_append.mp hx with hx | hx
              · exact .inl (List.mem_singleton.mp hx)
              · exact hdb x hx
            rw [show valB ([48] ++ dg) = valB dg from valB_zero dg]
            walk_at "rd"
            refine if_yesD (by omega) ?_
            walk_at "rd"
            rename_i p hp
            rw [Int.toNat_natCast, show (o : Int) * 2 ^ k + (valB dg : Nat) = ((o * 2 ^ k + valB dg : Nat) : Int) by norm_cast]
            exact q2 _ _ rfl p hp
        · rw [if_neg c] at q1 q2
          refine if_noD (by omega) ?_
          walk_at "rd"
          rw [show ((pl + o : Nat) : Int) + 1 + ((o : Nat) - 20 + 1) = ((pl + o + 1 + (o - 19) : Nat) : Int) by omega]
          by_cases d : l.length < pl + o + 1 + (o - 19)
          · refine if_yesD (by omega) ?_
            walk_at "rd"
            exact q1 (by rw [if_pos d])
          · rw [if_neg d, if_neg c] at q1 q2
            refine if_noD (by omega) ?_
            walk_at "rd"
            rw [show ((pl + o : Nat) : Int) + 1 = ((pl + o + 1 : Nat) : Int) by omega]
            refine rd_slSM (by omega) (by omega) (by omega) ?_
            rw [show pl + o + 1 + (o - 19) - (pl + o + 1) = o - 19 by omega]
            have hdb : ∀ x ∈ (l.drop (pl + o + 1)).take (o - 19), IsB x := fun x hx => hb x (List.mem_of_mem_drop (List.mem_of_mem_take hx))
            have hdl : ((l.drop (pl + o + 1)).take (o - 19)).length ≤ 600 := by rw [List.length_take]; omega
            have hln : 0 < (l.drop (pl + o + 1)).length := by rw [List.length_drop]; omega
            have h0 : ((l.drop (pl + o + 1)).take (o - 19))[0]? = (l.drop (pl + o + 1))[0]? := by rw [List.getElem?_take, if_pos (by omega)]
            obtain ⟨ch, hch⟩ : ∃ ch, (l.drop (pl + o + 1))[0]? = some ch := ⟨_, List.getElem?_eq_getElem hln⟩
            rw [hch] at h0 q1 q2
            generalize (l.drop (pl + o + 1)).take (o - 19) = dg at q1 q2 hdb hdl h0 ⊢
            walk_at "rd"
            refine rd_intB (l := [48] ++ dg) (by simp) (by simp; omega) (fun x hx => ?_) ?_
            · rcases List.mem_append.mp hx with hx | hx
              · exact .inl (List.mem_singleton.mp hx)
              · exact hdb x hx
            rw [show valB ([48] ++ dg) = valB dg from valB_zero dg]
            walk_at "rd"
            refine if_noD (by omega) ?_
            walk_at "rd"
            refine rd_ixS (i := 0) rfl (by omega) h0 ?_
            walk_at "rd"
            by_cases z : ch = 48
            · subst z
              refine if_yesD (congrArg V.str e_0.symm) ?_
              walk_at "rd"
              exact q1 (by rw [if_pos (.inl rfl)])
            · have z2 : ¬ V.str (SX.S [ch]) = V.str (Str.ofString "0") := fun e => z (by
                rw [e_0] at e
                exact (List.cons.inj (SX.S_inj (V.str.inj e))).1)
              refine if_noD z2 ?_
              walk_at "rd"
              by_cases y : valB dg / 2 ^ k < 20
              · refine if_yesD (by omega) ?_
                walk_at "rd"
                exact q1 (by rw [if_pos (.inr y)])
              · refine if_noD (by omega) ?_
                walk_at "rd"
                rename_i p hp
                rw [if_neg (by rintro (e | e); exact z (Option.some.inj e); exact y e)] at q2
                exact q2 _ _ rfl p hp
      · rw [if_neg hz] at q1 ⊢
        walk_at "rd"
        refine if_yesD (by decide) ?_
        walk_at "rd"
        exact q1 rfl
    ) only [↓lt_eq]
theorem ok_check_coding {f : Addr} {fd : FuncData} {f_check_within : Addr} {fd_check_within : FuncData} {f_is_tables : Addr} {fd_is_tables : FuncData}    (D : Dn K mg "check_coding" s_check_coding ["length", "coarse", "tables"] f fd) (bi : Bi mg) (G_check_within : FnOk P w K mg base CX0 3 f_check_within fd_check_within ["value", "low", "high"] spCkW) (D_check_within : Dn K mg "check_within" s_check_within ["value", "low", "high"] f_check_within fd_check_within) (G_is_tables : FnOk P w K mg base CX0 4 f_is_tables fd_is_tables ["value"] (spTblsG K)) (D_is_tables : Dn K mg "is_tables" s_is_tables ["value"] f_is_tables fd_is_tables)     : FnOk P w K mg base CX0 5 f fd ["length", "coarse", "tables"] (spCoding K) := by
  refine lt_out ?_
  simp (disch := with_unfolding_all
    refine D.F.ok sc_check_coding (fun vs H Q E h => ?_) (fun cdv A outer s H vs Q E hr h => ?_)
    · obtain ⟨n, first, a, T, m, rfl, _⟩ := h
      rfl
    · obtain ⟨n, first, a, T, m, rfl, h1, h2, o1, o2, q⟩ := h
      refine ⟨_, (pss_cons (ps_expr (pe_call G_check_within (hr.mono (by first | decide | exact Nat.le_refl _)) (by rfl) D_check_within.g D_check_within.F.kp D_check_within.b .nil pass0 (pa_cons (pv 1) (pa_cons pe_int (pa_cons (pv 0) pa_nil)))))
   (pss_one (ps_if (pt_not (pt_val (pe_call G_is_tables (hr.mono (by first | decide | exact Nat.le_refl _)) (by rfl) D_is_tables.g D_is_tables.F.kp D_is_tables.b .nil pass0 (pa_cons (pv 2) pa_nil))))
   (pss_one ps_never)
   pss_nil))), ?_⟩
      refine rd_start (σ := [some (.int (n : Int)), some (.int (first : Int)), some (.ref a)]) rfl ?_
      walk_at "rd"
      refine use_tblsG h2 o1 o2 ?_
      walk_at "rd"
      exact q
    ) only [↓lt_eq]
theorem ok_read_numbers {f : Addr} {fd : FuncData} {f_check_within : Addr} {fd_check_within : FuncData} {f_check_coding : Addr} {fd_check_coding : FuncData} {f_parameter : Addr} {fd_parameter : FuncData} {f_read_code : Addr} {fd_read_code : FuncData} {f_number_with : Addr} {fd_number_with : FuncData} {f_table_behind : Addr} {fd_table_behind : FuncData}    (D : Dn K mg "read_numbers" s_read_numbers ["bits", "length", "coarse", "tables"] f fd) (bi : Bi mg) (G_check_within : FnOk P w K mg base CX0 3 f_check_within fd_check_within ["value", "low", "high"] spCkW) (D_check_within : Dn K mg "check_within" s_check_within ["value", "low", "high"] f_check_within fd_check_within) (G_check_coding : FnOk P w K mg base CX0 5 f_check_coding fd_check_coding ["length", "coarse", "tables"] (spCoding K)) (D_check_coding : Dn K mg "check_coding" s_check_coding ["length", "coarse", "tables"] f_check_coding fd_check_coding) (G_parameter : FnOk P w K mg base CX0 4 f_parameter fd_parameter ["table"] (spParG K)) (D_parameter : Dn K mg "parameter" s_parameter ["table"] f_parameter fd_parameter) (G_read_code : FnOk P w K mg base CX0 1 f_read_code fd_read_code ["bits", "place", "k"] spRdC) (D_read_code : Dn K mg "read_code" s_read_code ["bits", "place", "k"] f_read_code fd_read_code) (G_number_with : FnOk P w K mg base CX0 1 f_number_with fd_number_with ["code"] spNumW) (D_number_with : Dn K mg "number_with" s_number_with ["code"] f_number_with fd_number_with) (G_table_behind : FnOk P w K mg base CX0 1 f_table_behind fd_table_behind ["table", "code"] (spBehind K)) (D_table_behind : Dn K mg "table_behind" s_table_behind ["table", "code"] f_table_behind fd_table_behind)    (g_BLOCK_LIMIT : ∃ t, mg "BLOCK_LIMIT" = some (.int 64 t)) : FnOk P w K mg base CX0 6 f fd ["bits", "length", "coarse", "tables"] (spRdM K) := by
  refine lt_out ?_
  simp (disch := with_unfolding_all
    refine D.F.ok sc_read_numbers (fun vs H Q E h => ?_) (fun cdv A outer s H vs Q E hr h => ?_)
    · obtain ⟨ns, first, b, T, rfl, _⟩ := h
      rfl
    · obtain ⟨ns, first, b, T, rfl, hl, hf, hn, hT, o1, o2, q⟩ := h
      obtain ⟨t64, g_BLOCK_LIMIT⟩ := g_BLOCK_LIMIT
      have hbin : ∀ c ∈ (wst ns first T ns.length).1.flatten, IsB c := wst_bin ns first T ns.length
      have hfl := wst_flat (first := first) hn o1 o2 ns.length hl
      have hfl2 : (wst ns first T ns.length).1.flatten.length ≤ 1000000 := by omega
      refine ⟨_, (pss_cons (ps_expr (pe_call G_check_within (hr.mono (by first | decide | exact Nat.le_refl _)) (by rfl) D_check_within.g D_check_within.F.kp D_check_within.b .nil pass0 (pa_cons (pv 1) (pa_cons pe_int (pa_cons (pe_glob (v := .int 64) (by rfl) g_BLOCK_LIMIT ⟨_, rfl⟩) pa_nil)))))
   (pss_cons (ps_expr (pe_call G_check_coding (hr.mono (by first | decide | exact Nat.le_refl _)) (by rfl) D_check_coding.g D_check_coding.F.kp D_check_coding.b .nil pass0 (pa_cons (pv 1) (pa_cons (pv 2) (pa_cons (pv 3) pa_nil)))))
   (pss_cons (ps_if (PW.pt (pw_or (pt_not (pt_val (pe_callB call_isi (by rfl) bi.isinstance_ (by decide +kernel) (pa_cons (pv 0) (pa_cons (pe_bltn (v := .ty "str") (by rfl) bi.str_ (by decide +kernel) rfl) pa_nil))))) (pw_or1 (pt_cmpR op_ne (pe_bm PySem.F.plainAttrs_str PySem.F.slot_str_strip PySem.F.type_str_strip mt_stripK (pv 0) (pa_cons pe_str pa_nil)) pe_str (nomark _)))))
   (pss_one (ps_ret pe_non))
   pss_nil)
   (pss_cons (ps_set (i := 4) sc_read_numbers.nd rfl (Or.inl rfl) (pe_callTy cList (by rfl) bi.list_ (by decide +kernel) (pa_cons (pv 3) pa_nil)))
   (pss_cons (ps_set (i := 5) sc_read_numbers.nd rfl (Or.inl rfl) (pe_lst pa_nil))
   (pss_cons (ps_set (i := 6) sc_read_numbers.nd rfl (Or.inl rfl) pe_int)
   (pss_cons (ps_for PassesOwn.never rfl (pi_range1 (by rfl) bi.range_ (pa_cons (pv 1) pa_nil)) (pg_name (i := 7) sc_read_numbers.nd rfl (Or.inl rfl))
   (pss_cons (ps_set (i := 8) sc_read_numbers.nd rfl (Or.inl rfl) (pe_ifExp (pt_cmpR op_lt (pv 7) (pv 2) (nomark _)) pe_int pe_int))
   (pss_cons (ps_set (i := 9) sc_read_numbers.nd rfl (Or.inl rfl) (pe_call G_read_code (hr.mono (by first | decide | exact Nat.le_refl _)) (by rfl) D_read_code.g D_read_code.F.kp D_read_code.b .nil pass0 (pa_cons (pv 0) (pa_cons (pv 6) (pa_cons (pe_call G_parameter (hr.mono (by first | decide | exact Nat.le_refl _)) (by rfl) D_parameter.g D_parameter.F.kp D_parameter.b .nil pass0 (pa_cons (pe_ix ix_list (pv 4) (pv 8) (fun _ _ => rfl)) pa_nil)) pa_nil)))))
   (pss_cons (ps_if (pt_cmpR cIsN (pv 9) pe_non (nomark _))
   (pss_one (ps_ret pe_non))
   pss_nil)
   (pss_cons (ps_asg (pv 9) (pg_tup rfl (pgs_cons (pg_name (i := 10) sc_read_numbers.nd rfl (Or.inl rfl)) (pgs_cons (pg_name (i := 6) sc_read_numbers.nd rfl (Or.inl rfl)) pgs_nil))))
   (pss_cons (ps_expr (pe_bm PySem.F.plainAttrs_list PySem.F.slot_list_append PySem.F.type_list_append mt_append (pv 5) (pa_cons (pe_call G_number_with (hr.mono (by first | decide | exact Nat.le_refl _)) (by rfl) D_number_with.g D_number_with.F.kp D_number_with.b .nil pass0 (pa_cons (pv 10) pa_nil)) pa_nil)))
   (pss_one (ps_asg (pe_call G_table_behind (hr.mono (by first | decide | exact Nat.le_refl _)) (by rfl) D_table_behind.g D_table_behind.F.kp D_table_behind.b .nil pass0 (pa_cons (pe_ix ix_list (pv 4) (pv 8) (fun _ _ => rfl)) (pa_cons (pv 10) pa_nil))) (pg_sub (pv 4) (pv 8) set_list)))))))))
   (pss_cons (ps_if (pt_cmpR op_ne (pv 6) (pe_callB cLen (by rfl) bi.len_ (by decide +kernel) (pa_cons (pv 0) pa_nil)) (nomark _))
   (pss_one (ps_ret pe_non))
   pss_nil)
   (pss_one (ps_ret (pe_tup (pa_cons (pv 5) (pa_cons (pe_callTy cTuple (by rfl) bi.tuple_ (by decide +kernel) (pa_cons (pv 4) pa_nil)) pa_nil))))))))))))), ?_⟩
      refine rd_start (σ := [some (.str (SX.S (wst ns first T ns.length).1.flatten)), some (.int (ns.length : Nat)), some (.int (first : Int)), some (.ref b), none, none, none, none, none, none, none]) rfl ?_
      walk_at "rd"
      refine use_coding hf hT o1 o2 ?_
      obtain ⟨r0, r1, h0, h1, h2⟩ := hT
      walk_at "rd"
      refine if_noN (congrArg V.str e_empty.symm) ?_
      walk_at "rd"
      refine rd_listQ h0.1 fun p hp => ?_
      walk_at "rd"
      rename_i w hw
      have hs2 : Same H (upd (upd H p (.lst [.ref r0, .ref r1])) w (.lst [])) := (same_new hp).trans (same_new hw)
      have hwn : H w = none := (same_new hp).free hw
      have hpw : p ≠ w := ne_of_none upd_same hw
      have hwp := hpw.symm
      refine for_range (lo := 0) (n := ((ns.length : Nat) : Int).toNat) (fun i σ H' => ∃ r0 r1 x7 x8 x9 x10, σ = [some (.str (SX.S (wst ns first T ns.length).1.flatten)), some (.int (ns.length : Nat)), some (.int (first : Int)), some (.ref b), some (.ref p), some (.ref w), some (.int (((wst ns first T i).1.flatten.length : Nat) : Int)), x7, x8, x9, x10] ∧ H' p = some (.lst [.ref r0, .ref r1]) ∧ H' w = some (.lst ((ns.take i).map V.int)) ∧ TbV K H' r0 (wst ns first T i).2.1 ∧ TbV K H' r1 (wst ns first T i).2.2 ∧ Same H H') ⟨r0, r1, none, none, none, none, rfl, look_new hw upd_same, upd_same, (h1.lk (.new hp)).lk (.new hw), (h2.lk (.new hp)).lk (.new hw), hs2⟩ (fun i σ H' hi hI => ?_) (fun σ H' hI => ?_)
      · obtain ⟨r0, r1, x7, x8, x9, x10, rfl, h3, h3w, h4, h5, hs⟩ := hI
        rw [Int.toNat_natCast] at hi
        obtain ⟨k1, k2⟩ := wst_ok (first := first) hn o1 o2 i (by omega)
        have bnd : (10 ^ 58 + (i : Int) * 10 ^ 56) < 10 ^ 60 := by omega
        have hz := getD_some (List.getElem?_eq_getElem hi)
        have htk : ns.take (i + 1) = ns.take i ++ [ns.getD i 0] := by rw [hz, List.take_add_one, List.getElem?_eq_getElem hi]; rfl
        obtain ⟨post, hpost⟩ := wst_split ns first T (i + 1) ns.length hi
        have hpl : (wst ns first T i).1.flatten.length ≤ (wst ns first T ns.length).1.flatten.length := by
          obtain ⟨post2, e⟩ := wst_split ns first T i ns.length (by omega)
          rw [e, List.length_append]
          omega
        rw [show (0 : Int) + (i : Int) = ((i : Nat) : Int) by omega]
        walk_at "rd"
        refine rd_iteD (fun c => ?_) (fun c => ?_)
        · have c := Int.ofNat_lt.mp c
          walk_at "rd"
          refine use_parG h4 k1 ?_
          walk_at "rd"
          have hpp := par_leG k1 bnd
          have hw1 : (wst ns first T ns.length).1.flatten = (wst ns first T i).1.flatten ++ (encB (uOf (ns.getD i 0)) (par (wst ns first T i).2.1.1 (wst ns first T i).2.1.2) ++ post) := by
            rw [hpost, wst_lo c, List.flatten_append, List.append_assoc]
            simp
          have hrd := rdC_good (wst ns first T i).1.flatten post (uOf (ns.getD i 0)) (par (wst ns first T i).2.1.1 (wst ns first T i).2.1.2)
          rw [← hw1] at hrd
          have hon : onesL ((wst ns first T ns.length).1.flatten.drop (wst ns first T i).1.flatten.length) ≤ 600 := by
            rw [hw1, List.drop_left]
            exact ones_enc _ _ _ (nb_small (uOf_getD hn i))
          refine use_rdC hbin hfl2 hpl (by omega) hon hrd fun p1 hp1 => ?_
          walk_at "rd"
          refine if_noD (fun z => V.noConfusion z) ?_
          have hlt : (ns.take i).length ≤ 1000 := by rw [List.length_take]; omega
          have hl1 : (wst ns first T (i + 1)).1.flatten.length = (wst ns first T i).1.flatten.length + (encB (uOf (ns.getD i 0)) (par (wst ns first T i).2.1.1 (wst ns first T i).2.1.2)).length := by
            rw [wst_lo c, List.flatten_append, List.length_append]
            simp
          walk_at "rd"
          rw [unU_uOf]
          walk_at "rd"
          have u3 := look_new (o := .tup [.int ((uOf (ns.getD i 0) : Nat) : Int), .int (((wst ns first T i).1.flatten.length + (encB (uOf (ns.getD i 0)) (par (wst ns first T i).2.1.1 (wst ns first T i).2.1.2)).length : Nat) : Int)]) hp1 h3
          have u3w := look_new (o := .tup [.int ((uOf (ns.getD i 0) : Nat) : Int), .int (((wst ns first T i).1.flatten.length + (encB (uOf (ns.getD i 0)) (par (wst ns first T i).2.1.1 (wst ns first T i).2.1.2)).length : Nat) : Int)]) hp1 h3w
          have v3 := look_upd (o := .lst ((ns.take i ++ [ns.getD i 0]).map V.int)) hpw u3
          have v4 : TbV K _ r0 (wst ns first T i).2.1 := TbV.lk (LK.at (o := .lst ((ns.take i ++ [ns.getD i 0]).map V.int)) u3w) (h4.lk (.new hp1))
          have v5 : TbV K _ r1 (wst ns first T i).2.2 := TbV.lk (LK.at (o := .lst ((ns.take i ++ [ns.getD i 0]).map V.int)) u3w) (h5.lk (.new hp1))
          refine use_behind v4 k1 fun p2 hp2 => ?_
          walk_at "rd"
          rw [hl1, wst_lo c, htk]
          refine ⟨p2, r1, _, _, _, _, rfl, upd_same, ?_, ?_, ?_, ?_⟩
          · rw [upd_ne hwp, upd_ne (ne_of_none upd_same hp2), upd_same]
          · exact TbV.lk (LK.at (look_new hp2 v3)) (TbV.of upd_same)
          · exact TbV.lk (LK.at (look_new hp2 v3)) (TbV.lk (LK.new hp2) v5)
          · intro b2 x e
            rw [upd_ne (ne_of_none e hp)]
            refine look_new hp2 ?_
            rw [upd_ne (ne_of_none e hwn)]
            exact look_new hp1 (hs _ _ e)
        · have c : ¬ i < first := fun z => c (Int.ofNat_lt.mpr z)
          walk_at "rd"
          refine use_parG h5 k2 ?_
          walk_at "rd"
          have hpp := par_leG k2 bnd
          have hw1 : (wst ns first T ns.length).1.flatten = (wst ns first T i).1.flatten ++ (encB (uOf (ns.getD i 0)) (par (wst ns first T i).2.2.1 (wst ns first T i).2.2.2) ++ post) := by
            rw [hpost, wst_hi c, List.flatten_append, List.append_assoc]
            simp
          have hrd := rdC_good (wst ns first T i).1.flatten post (uOf (ns.getD i 0)) (par (wst ns first T i).2.2.1 (wst ns first T i).2.2.2)
          rw [← hw1] at hrd
          have hon : onesL ((wst ns first T ns.length).1.flatten.drop (wst ns first T i).1.flatten.length) ≤ 600 := by
            rw [hw1, List.drop_left]
            exact ones_enc _ _ _ (nb_small (uOf_getD hn i))
          refine use_rdC hbin hfl2 hpl (by omega) hon hrd fun p1 hp1 => ?_
          walk_at "rd"
          refine if_noD (fun z => V.noConfusion z) ?_
          have hlt : (ns.take i).length ≤ 1000 := by rw [List.length_take]; omega
          have hl1 : (wst ns first T (i + 1)).1.flatten.length = (wst ns first T i).1.flatten.length + (encB (uOf (ns.getD i 0)) (par (wst ns first T i).2.2.1 (wst ns first T i).2.2.2)).length := by
            rw [wst_hi c, List.flatten_append, List.length_append]
            simp
          walk_at "rd"
          rw [unU_uOf]
          walk_at "rd"
          have u3 := look_new (o := .tup [.int ((uOf (ns.getD i 0) : Nat) : Int), .int (((wst ns first T i).1.flatten.length + (encB (uOf (ns.getD i 0)) (par (wst ns first T i).2.2.1 (wst ns first T i).2.2.2)).length : Nat) : Int)]) hp1 h3
          have u3w := look_new (o := .tup [.int ((uOf (ns.getD i 0) : Nat) : Int), .int (((wst ns first T i).1.flatten.length + (encB (uOf (ns.getD i 0)) (par (wst ns first T i).2.2.1 (wst ns first T i).2.2.2)).length : Nat) : Int)]) hp1 h3w
          have v3 := look_upd (o := .lst ((ns.take i ++ [ns.getD i 0]).map V.int)) hpw u3
          have v4 : TbV K _ r0 (wst ns first T i).2.1 := TbV.lk (LK.at (o := .lst ((ns.take i ++ [ns.getD i 0]).map V.int)) u3w) (h4.lk (.new hp1))
          have v5 : TbV K _ r1 (wst ns first T i).2.2 := TbV.lk (LK.at (o := .lst ((ns.take i ++ [ns.getD i 0]).map V.int)) u3w) (h5.lk (.new hp1))
          refine use_behind v5 k2 fun p2 hp2 => ?_
          walk_at "rd"
          rw [hl1, wst_hi c, htk]
          refine ⟨r0, p2, _, _, _, _, rfl, upd_same, ?_, ?_, ?_, ?_⟩
          · rw [upd_ne hwp, upd_ne (ne_of_none upd_same hp2), upd_same]
          · exact TbV.lk (LK.at (look_new hp2 v3)) (TbV.lk (LK.new hp2) v4)
          · exact TbV.lk (LK.at (look_new hp2 v3)) (TbV.of upd_same)
          · intro b2 x e
            rw [upd_ne (ne_of_none e hp)]
            refine look_new hp2 ?_
            rw [upd_ne (ne_of_none e hwn)]
            exact look_new hp1 (hs _ _ e)
      · obtain ⟨r0, r1, x7, x8, x9, x10, rfl, h3, h3w, h4, h5, hs⟩ := hI
        rw [Int.toNat_natCast] at *
        rw [List.take_length] at h3w
        walk_at "rd"
        refine if_noN rfl ?_
        walk_at "rd"
        rename_i q1 hq1 p1 hp1
        refine q p1 w q1 _ hwn ((hs.trans (same_new hq1)).trans (same_new hp1)) ((hs.trans (same_new hq1)).free hp1) upd_same (look_new hp1 (look_new hq1 h3w)) ⟨r0, r1, .of (look_new hp1 upd_same), (h4.lk (.new hq1)).lk (.new hp1), (h5.lk (.new hq1)).lk (.new hp1)⟩
    ) only [↓lt_eq]
theorem ok_mark_of {f : Addr} {fd : FuncData} {f_check_block : Addr} {fd_check_block : FuncData} {f_code_number : Addr} {fd_code_number : FuncData}    (D : Dn K mg "mark_of" s_mark_of ["numbers"] f fd) (bi : Bi mg) (G_check_block : FnOk P w K mg base CX0 3 f_check_block fd_check_block ["values", "least"] spBlock) (D_check_block : Dn K mg "check_block" s_check_block ["values", "least"] f_check_block fd_check_block) (G_code_number : FnOk P w K mg base CX0 1 f_code_number fd_code_number ["number"] spCode) (D_code_number : Dn K mg "code_number" s_code_number ["number"] f_code_number fd_code_number)    (g_MARK_FACTOR : ∃ t, mg "MARK_FACTOR" = some (.int 31 t)) (g_MARK_MODULUS : ∃ t, mg "MARK_MODULUS" = some (.int 9973 t)) : FnOk P w K mg base CX0 4 f fd ["numbers"] spMark := by
  refine lt_out ?_
  simp (disch := with_unfolding_all
    refine D.F.ok sc_mark_of (fun vs H Q E h => ?_) (fun cdv A outer s H vs Q E hr h => ?_)
    · obtain ⟨a, ns, rfl, _⟩ := h
      rfl
    · obtain ⟨a, ns, rfl, hS, hl, q⟩ := h
      obtain ⟨tf, g_MARK_FACTOR⟩ := g_MARK_FACTOR
      obtain ⟨tm, g_MARK_MODULUS⟩ := g_MARK_MODULUS
      refine ⟨_, (pss_cons (ps_expr (pe_call G_check_block (hr.mono (by first | decide | exact Nat.le_refl _)) (by rfl) D_check_block.g D_check_block.F.kp D_check_block.b .nil pass0 (pa_cons (pv 0) (pa_cons pe_int pa_nil))))
   (pss_cons (ps_set (i := 1) sc_mark_of.nd rfl (Or.inl rfl) pe_int)
   (pss_cons (ps_for PassesOwn.never rfl (pi_list (pv 0)) (pg_name (i := 2) sc_mark_of.nd rfl (Or.inl rfl))
   (pss_one (ps_set (i := 1) sc_mark_of.nd rfl (Or.inl rfl) (pe_op op_mod (pe_op op_add (pe_op op_mul (pv 1) (pe_glob (v := .int 31) (by rfl) g_MARK_FACTOR ⟨_, rfl⟩)) (pe_call G_code_number (hr.mono (by first | decide | exact Nat.le_refl _)) (by rfl) D_code_number.g D_code_number.F.kp D_code_number.b .nil pass0 (pa_cons (pv 2) pa_nil))) (pe_glob (v := .int 9973) (by rfl) g_MARK_MODULUS ⟨_, rfl⟩)))))
   (pss_one (ps_ret (pv 1)))))), ?_⟩
      refine rd_start (σ := [some (.ref a), none, none]) rfl ?_
      walk_at "rd"
      refine' rd_lpL (xs := ns.map V.int) ?k1 ?_
      (case k1 => exact SqL.of (by walk_at "hg"))
      refine for_list (xs := ns.map V.int) (fun i σ H' => ∃ t, σ = [some (.ref a), some (.int (markF (ns.take i))), t] ∧ Same H H') ⟨none, rfl, by walk_at "sm"⟩ (fun i σ H1 _ hI => ?_) (fun i v σ H1 hv hI => ?_) (fun σ H1 hI => ?_)
      · obtain ⟨t, rfl, hs⟩ := hI
        exact hs.seq (SqL.of hS)
      · obtain ⟨t, rfl, hs⟩ := hI
        obtain ⟨z, rfl, hz⟩ : ∃ z, v = .int z ∧ ns[i]? = some z := by
          rw [List.getElem?_map] at hv
          cases g : ns[i]? with
          | none => rw [g] at hv; cases hv
          | some z => rw [g] at hv; exact ⟨z, (Option.some.inj hv).symm, rfl⟩
        have hb := markF_bound (ns.take i)
        walk_at "rd"
        refine ⟨some (.int z), ?_, hs⟩
        rw [show ns.take (i + 1) = ns.take i ++ [z] by rw [List.take_add_one, hz]; rfl, markF_snoc]
        rfl
      · obtain ⟨t, rfl, hs⟩ := hI
        walk_at "rd"
        rw [List.take_of_length_le (by rw [List.length_map]; exact Nat.le_refl _)]
        exact q _ hs
    ) only [↓lt_eq]
theorem ok_read_frame {f : Addr} {fd : FuncData} {f_read_numbers : Addr} {fd_read_numbers : FuncData} {f_coarse_count : Addr} {fd_coarse_count : FuncData} {f_mark_of : Addr} {fd_mark_of : FuncData}    (D : Dn K mg "read_frame" s_read_frame ["record", "tables"] f fd) (bi : Bi mg) (G_read_numbers : FnOk P w K mg base CX0 6 f_read_numbers fd_read_numbers ["bits", "length", "coarse", "tables"] (spRdM K)) (D_read_numbers : Dn K mg "read_numbers" s_read_numbers ["bits", "length", "coarse", "tables"] f_read_numbers fd_read_numbers) (G_coarse_count : FnOk P w K mg base CX0 4 f_coarse_count fd_coarse_count ["length", "levels"] spCoarse) (D_coarse_count : Dn K mg "coarse_count" s_coarse_count ["length", "levels"] f_coarse_count fd_coarse_count) (G_mark_of : FnOk P w K mg base CX0 4 f_mark_of fd_mark_of ["numbers"] spMark) (D_mark_of : Dn K mg "mark_of" s_mark_of ["numbers"] f_mark_of fd_mark_of)     : FnOk P w K mg base CX0 7 f fd ["record", "tables"] (spRfM K) := by
  refine lt_out ?_
  simp (disch := with_unfolding_all
    refine D.F.ok sc_read_frame (fun vs H Q E h => ?_) (fun cdv A outer s H vs Q E hr h => ?_)
    · obtain ⟨v, d, ns, T, t, rfl, _⟩ := h
      rfl
    · obtain ⟨v, d, ns, T, t, rfl, ⟨a, j, rfl, h, hj⟩, ok, hT, q⟩ := h
      unfold FrAt at h
      obtain ⟨hok, hl, hn, o1, o2⟩ := ok
      obtain ⟨k1, k2, k3, k4, k5, k6, k7, k8⟩ := hok
      refine ⟨_, (pss_cons (ps_asg (pe_slice sl_tup (pv 0) (po_some pe_int) po_none) (pg_tup rfl (pgs_cons (pg_name (i := 2) sc_read_frame.nd rfl (Or.inl rfl)) (pgs_cons (pg_name (i := 3) sc_read_frame.nd rfl (Or.inl rfl)) (pgs_cons (pg_name (i := 4) sc_read_frame.nd rfl (Or.inl rfl)) (pgs_cons (pg_name (i := 5) sc_read_frame.nd rfl (Or.inl rfl)) (pgs_cons (pg_name (i := 6) sc_read_frame.nd rfl (Or.inl rfl)) (pgs_cons (pg_name (i := 7) sc_read_frame.nd rfl (Or.inl rfl)) pgs_nil))))))))
   (pss_cons (ps_set (i := 8) sc_read_frame.nd rfl (Or.inl rfl) (pe_call G_read_numbers (hr.mono (by first | decide | exact Nat.le_refl _)) (by rfl) D_read_numbers.g D_read_numbers.F.kp D_read_numbers.b .nil pass0 (pa_cons (pv 7) (pa_cons (pv 2) (pa_cons (pe_call G_coarse_count (hr.mono (by first | decide | exact Nat.le_refl _)) (by rfl) D_coarse_count.g D_coarse_count.F.kp D_coarse_count.b .nil pass0 (pa_cons (pv 2) (pa_cons (pv 4) pa_nil))) (pa_cons (pv 1) pa_nil))))))
   (pss_cons (ps_if (PW.pt (pw_or (pt_cmpR cIsN (pv 8) pe_non (nomark _)) (pw_or1 (pt_cmpR op_ne (pe_call G_mark_of (hr.mono (by first | decide | exact Nat.le_refl _)) (by rfl) D_mark_of.g D_mark_of.F.kp D_mark_of.b .nil pass0 (pa_cons (pe_ix ix_tup (pv 8) pe_int (fun _ _ => rfl)) pa_nil)) (pv 6) (nomark _)))))
   (pss_one (ps_ret pe_non))
   pss_nil)
   (pss_one (ps_ret (pv 8)))))), ?_⟩
      refine rd_start (σ := [some (.ref a), some (.ref t), none, none, none, none, none, none, none]) rfl ?_
      walk_at "rd"
      refine rd_slTp (SqT.of h) (ys := [.int (d.1 : Nat), .ref j, .int (d.2.2.2.1 : Nat), .int (d.2.2.2.2 : Nat), .int (markF ns), .str (SX.S (bitsF d ns T))]) rfl (show ¬ (HT.sIx 7 0 (some 1) = 0 ∧ HT.sIx 7 7 none = 7) by decide) fun p1 hp1 => ?_
      walk_at "rd"
      refine use_coarse k1 k2 k6 ?_
      have hcc := cc_n d.1 d.2.2.2.1
      walk_at "rd"
      refine use_rdM (ns := ns) (T := T) rfl hl.symm (by omega) (by omega) (fun z hz => Nat.lt_of_le_of_lt (hn z hz) (by decide)) (hT.lk (.new hp1)) (o1.up (by decide)) (o2.up (by decide)) fun p m q2 H2 hm0 hs2 hn2 hp2 hm2 hq2 => ?_
      walk_at "rd"
      refine if_noD (fun z => V.noConfusion z) ?_
      walk_at "rd"
      rename_i H3 hs3
      refine if_noN rfl ?_
      walk_at "rd"
      exact q p m q2 _ ((same_new hp1).free hm0) (((same_new hp1).trans hs2).trans hs3) ((same_new hp1).free hn2) (hs3 _ _ hp2) (hs3 _ _ hm2) (hq2.lk (.of hs3))
    ) only [↓lt_eq]
theorem ok_is_table_A {f : Addr} {fd : FuncData} {f_is_integer : Addr} {fd_is_integer : FuncData} {f_is_within : Addr} {fd_is_within : FuncData}    (D : Dn K mg "is_table" s_is_table ["value"] f fd) (bi : Bi mg) (G_is_integer : FnOk P w K mg base CX0 1 f_is_integer fd_is_integer ["value"] spIsI) (D_is_integer : Dn K mg "is_integer" s_is_integer ["value"] f_is_integer fd_is_integer) (G_is_within : FnOk P w K mg base CX0 2 f_is_within fd_is_within ["value", "low", "high"] spWithin) (D_is_within : Dn K mg "is_within" s_is_within ["value", "low", "high"] f_is_within fd_is_within)    (g_COUNT_LIMIT : ∃ t, mg "COUNT_LIMIT" = some (.int 15 t)) : FnOk P w K mg base CX0 3 f fd ["value"] spTbl := by
  refine lt_out ?_
  simp (disch := with_unfolding_all
    refine D.F.ok sc_is_table (fun vs H Q E h => ?_) (fun cdv A outer s H vs Q E hr h => ?_)
    · obtain ⟨x, b, rfl, _⟩ := h
      rfl
    · obtain ⟨x, b, rfl, hj, q⟩ := h
      obtain ⟨t1, g_COUNT_LIMIT⟩ := g_COUNT_LIMIT
      refine ⟨_, (pss_cons (ps_if (PW.pt (pw_or (pt_not (pt_val (pe_callB call_isi (by rfl) bi.isinstance_ (by decide +kernel) (pa_cons (pv 0) (pa_cons (pe_bltn (v := .ty "tuple") (by rfl) bi.tuple_ (by decide +kernel) rfl) pa_nil))))) (pw_or1 (pt_cmpR op_ne (pe_callB cLen (by rfl) bi.len_ (by decide +kernel) (pa_cons (pv 0) pa_nil)) pe_int (nomark _)))))
   (pss_one (ps_ret pe_bl))
   pss_nil)
   (pss_cons (ps_asg (pv 0) (pg_tup rfl (pgs_cons (pg_name (i := 1) sc_is_table.nd rfl (Or.inl rfl)) (pgs_cons (pg_name (i := 2) sc_is_table.nd rfl (Or.inl rfl)) pgs_nil))))
   (pss_one (ps_ret (pe_and (pe_call G_is_integer (hr.mono (by first | decide | exact Nat.le_refl _)) (by rfl) D_is_integer.g D_is_integer.F.kp D_is_integer.b .nil pass0 (pa_cons (pv 1) pa_nil)) (pe_and (pe_cmpR op_ge (pv 1) pe_int (nomark _)) (pe_one (pe_call G_is_within (hr.mono (by first | decide | exact Nat.le_refl _)) (by rfl) D_is_within.g D_is_within.F.kp D_is_within.b .nil pass0 (pa_cons (pv 2) (pa_cons pe_int (pa_cons (pe_glob (v := .int 15) (by rfl) g_COUNT_LIMIT ⟨_, rfl⟩) pa_nil))))))))))), ?_⟩
      refine rd_start (σ := [some x, none, none]) rfl ?_
      cases hj with
      | @flat _ h =>
        cases x with
        | non => walk_at "rd"; exact q
        | bl _ => walk_at "rd"; exact q
        | int _ => walk_at "rd"; exact q
        | str _ => walk_at "rd"; exact q
        | ref _ => exact Bool.noConfusion h
        | byt _ => exact Bool.noConfusion h
        | flt _ => exact Bool.noConfusion h
        | ty _ => exact Bool.noConfusion h
      | @lst a xs h => walk_at "rd"; exact q
      | @tupn a xs h n =>
        walk_at "rd"
        refine if_yesN (fun z => n (Int.ofNat.inj (V.int.inj z))) ?_
        walk_at "rd"
        exact q
      | @tup2 a u v h hu hv =>
        walk_at "rd"
        refine if_noN rfl ?_
        walk_at "rd"
        refine use_isi hu ?_
        walk_at "rd"
        cases cu : isI u with
        | false =>
          rw [tt_no1 cu] at q
          walk_at "rd"
          exact q
        | true =>
          obtain ⟨w1, rfl⟩ := isI_yes cu
          rw [tt_int] at q
          walk_at "rd"
          refine rd_iteD (fun c => ?_) (fun c => ?_)
          · rw [decide_eq_true c, Bool.true_and] at q
            walk_at "rd"
            refine use_within hv ?_
            exact q
          · rw [decide_eq_false c, Bool.false_and] at q
            exact q
    ) only [↓lt_eq]
theorem ok_is_tables_A {f : Addr} {fd : FuncData} {f_is_table : Addr} {fd_is_table : FuncData}    (D : Dn K mg "is_tables" s_is_tables ["value"] f fd) (bi : Bi mg) (G_is_table : FnOk P w K mg base CX0 3 f_is_table fd_is_table ["value"] (spTblG K)) (D_is_table : Dn K mg "is_table" s_is_table ["value"] f_is_table fd_is_table) (G_is_table_A : FnOk P w K mg base CX0 3 f_is_table fd_is_table ["value"] spTbl)    : FnOk P w K mg base CX0 4 f fd ["value"] spTbls := by
  refine lt_out ?_
  simp (disch := with_unfolding_all
    refine D.F.ok sc_is_tables (fun vs H Q E h => ?_) (fun cdv A outer s H vs Q E hr h => ?_)
    · obtain ⟨x, b, rfl, _⟩ := h
      rfl
    · obtain ⟨x, b, rfl, hj, q⟩ := h
      refine ⟨_, (pss_one (ps_ret (pe_and (pe_callB call_isi (by rfl) bi.isinstance_ (by decide +kernel) (pa_cons (pv 0) (pa_cons (pe_bltn (v := .ty "tuple") (by rfl) bi.tuple_ (by decide +kernel) rfl) pa_nil))) (pe_and (pe_cmpR op_eq (pe_callB cLen (by rfl) bi.len_ (by decide +kernel) (pa_cons (pv 0) pa_nil)) pe_int (nomark _)) (pe_and (pe_call G_is_table_A (hr.mono (by first | decide | exact Nat.le_refl _)) (by rfl) D_is_table.g D_is_table.F.kp D_is_table.b .nil pass0 (pa_cons (pe_ix ix_tup (pv 0) pe_int (fun _ _ => rfl)) pa_nil)) (pe_one (pe_call G_is_table_A (hr.mono (by first | decide | exact Nat.le_refl _)) (by rfl) D_is_table.g D_is_table.F.kp D_is_table.b .nil pass0 (pa_cons (pe_ix ix_tup (pv 0) pe_int (fun _ _ => rfl)) pa_nil)))))))), ?_⟩
      refine rd_start (σ := [some x]) rfl ?_
      cases hj with
      | @flat _ h =>
        cases x with
        | non => walk_at "rd"; exact q
        | bl _ => walk_at "rd"; exact q
        | int _ => walk_at "rd"; exact q
        | str _ => walk_at "rd"; exact q
        | ref _ => exact Bool.noConfusion h
        | byt _ => exact Bool.noConfusion h
        | flt _ => exact Bool.noConfusion h
        | ty _ => exact Bool.noConfusion h
      | @lst a xs h => walk_at "rd"; exact q
      | @tupn a xs h n =>
        walk_at "rd"
        refine if_noD (fun z => n (Int.ofNat.inj (V.int.inj z))) ?_
        exact q
      | @tup2 a u v b1 b2 h hu hv =>
        walk_at "rd"
        refine if_yesD rfl ?_
        walk_at "rd"
        refine use_tbl hu ?_
        refine and_cut (b2 := b2) (fun hq => ?_) q
        walk_at "rd"
        exact use_tbl hv hq
    ) only [↓lt_eq]
theorem ok_is_bits_A {f : Addr} {fd : FuncData}     (D : Dn K mg "is_bits" s_is_bits ["value"] f fd) (bi : Bi mg)      : FnOk P w K mg base CX0 1 f fd ["value"] spBit := by
  refine lt_out ?_
  simp (disch := with_unfolding_all
    refine D.F.ok sc_is_bits (fun vs H Q E h => ?_) (fun cdv A outer s H vs Q E hr h => ?_)
    · obtain ⟨x, b, rfl, _⟩ := h
      rfl
    · obtain ⟨x, b, rfl, hj, q⟩ := h
      refine ⟨_, (pss_one (ps_ret (pe_and (pe_callB call_isi (by rfl) bi.isinstance_ (by decide +kernel) (pa_cons (pv 0) (pa_cons (pe_bltn (v := .ty "str") (by rfl) bi.str_ (by decide +kernel) rfl) pa_nil))) (pe_one (pe_cmpR op_eq (pe_bm PySem.F.plainAttrs_str PySem.F.slot_str_strip PySem.F.type_str_strip mt_stripK (pv 0) (pa_cons pe_str pa_nil)) pe_str (nomark _)))))), ?_⟩
      refine rd_start (σ := [some x]) rfl ?_
      cases hj with
      | @str z h =>
        walk_at "rd"
        refine ⟨z, Str.ofString "01", rfl, rfl, Nat.le_trans h (by decide), ?_⟩
        rw [e_01]
        walk_at "rd"
        exact q
      | non => walk_at "rd"; exact q
      | int => walk_at "rd"; exact q
      | @lst a xs h => walk_at "rd"; exact q
    ) only [↓lt_eq]
theorem ok_is_layout_A {f : Addr} {fd : FuncData} {f_is_within : Addr} {fd_is_within : FuncData} {f_is_joint : Addr} {fd_is_joint : FuncData}    (D : Dn K mg "is_layout" s_is_layout ["value"] f fd) (bi : Bi mg) (G_is_within : FnOk P w K mg base CX0 2 f_is_within fd_is_within ["value", "low", "high"] spWithin) (D_is_within : Dn K mg "is_within" s_is_within ["value", "low", "high"] f_is_within fd_is_within) (G_is_joint : FnOk P w K mg base CX0 3 f_is_joint fd_is_joint ["value"] spJ) (D_is_joint : Dn K mg "is_joint" s_is_joint ["value"] f_is_joint fd_is_joint)    (g_BLOCK_LIMIT : ∃ t, mg "BLOCK_LIMIT" = some (.int 64 t)) (g_LEVEL_LIMIT : ∃ t, mg "LEVEL_LIMIT" = some (.int 5 t)) (g_STEP_LIMIT : ∃ t, mg "STEP_LIMIT" = some (.int 64 t)) : FnOk P w K mg base CX0 4 f fd ["value"] spLay := by
  refine lt_out ?_
  simp (disch := with_unfolding_all
    refine D.F.ok sc_is_layout (fun vs H Q E h => ?_) (fun cdv A outer s H vs Q E hr h => ?_)
    · obtain ⟨a, ln, jt, lv, st, b, rfl, _⟩ := h
      rfl
    · obtain ⟨a, ln, jt, lv, st, b, rfl, h, hl, hj, h3, h4, q⟩ := h
      obtain ⟨t1, g_BLOCK_LIMIT⟩ := g_BLOCK_LIMIT
      obtain ⟨t2, g_LEVEL_LIMIT⟩ := g_LEVEL_LIMIT
      obtain ⟨t3, g_STEP_LIMIT⟩ := g_STEP_LIMIT
      refine ⟨_, (pss_cons (ps_if (PW.pt (pw_or (pt_not (pt_val (pe_callB call_isi (by rfl) bi.isinstance_ (by decide +kernel) (pa_cons (pv 0) (pa_cons (pe_bltn (v := .ty "tuple") (by rfl) bi.tuple_ (by decide +kernel) rfl) pa_nil))))) (pw_or1 (pt_cmpR op_ne (pe_callB cLen (by rfl) bi.len_ (by decide +kernel) (pa_cons (pv 0) pa_nil)) pe_int (nomark _)))))
   (pss_one (ps_ret pe_bl))
   pss_nil)
   (pss_cons (ps_asg (pv 0) (pg_tup rfl (pgs_cons (pg_name (i := 1) sc_is_layout.nd rfl (Or.inl rfl)) (pgs_cons (pg_name (i := 2) sc_is_layout.nd rfl (Or.inl rfl)) (pgs_cons (pg_name (i := 3) sc_is_layout.nd rfl (Or.inl rfl)) (pgs_cons (pg_name (i := 4) sc_is_layout.nd rfl (Or.inl rfl)) pgs_nil))))))
   (pss_cons (ps_if (PW.pt (pw_or (pt_not (pt_val (pe_call G_is_within (hr.mono (by first | decide | exact Nat.le_refl _)) (by rfl) D_is_within.g D_is_within.F.kp D_is_within.b .nil pass0 (pa_cons (pv 1) (pa_cons pe_int (pa_cons (pe_glob (v := .int 64) (by rfl) g_BLOCK_LIMIT ⟨_, rfl⟩) pa_nil)))))) (pw_or1 (pt_not (pt_val (pe_call G_is_joint (hr.mono (by first | decide | exact Nat.le_refl _)) (by rfl) D_is_joint.g D_is_joint.F.kp D_is_joint.b .nil pass0 (pa_cons (pv 2) pa_nil)))))))
   (pss_one (ps_ret pe_bl))
   pss_nil)
   (pss_one (ps_ret (pe_and (pe_call G_is_within (hr.mono (by first | decide | exact Nat.le_refl _)) (by rfl) D_is_within.g D_is_within.F.kp D_is_within.b .nil pass0 (pa_cons (pv 3) (pa_cons pe_int (pa_cons (pe_glob (v := .int 5) (by rfl) g_LEVEL_LIMIT ⟨_, rfl⟩) pa_nil)))) (pe_one (pe_call G_is_within (hr.mono (by first | decide | exact Nat.le_refl _)) (by rfl) D_is_within.g D_is_within.F.kp D_is_within.b .nil pass0 (pa_cons (pv 4) (pa_cons pe_int (pa_cons (pe_glob (v := .int 64) (by rfl) g_STEP_LIMIT ⟨_, rfl⟩) pa_nil))))))))))), ?_⟩
      refine rd_start (σ := [some (.ref a), none, none, none, none]) rfl ?_
      walk_at "rd"
      refine if_noN rfl ?_
      walk_at "rd"
      refine use_within hl (rd_bl ?_)
      unfold layB at q
      cases c1 : inI ln 1 64 with
      | false =>
        rw [c1, Bool.false_and, Bool.false_and] at q
        walk_at "rd"
        exact q
      | true =>
        rw [c1, Bool.true_and] at q
        walk_at "rd"
        refine use_j hj (rd_bl ?_)
        cases b with
        | false =>
          walk_at "rd"
          exact q
        | true =>
          walk_at "rd"
          refine use_within h3 ?_
          refine and_cut (b2 := inI st 1 64) (fun hq => ?_) q
          walk_at "rd"
          exact use_within h4 hq
    ) only [↓lt_eq]
theorem ok_is_state_A {f : Addr} {fd : FuncData} {f_is_tables : Addr} {fd_is_tables : FuncData}    (D : Dn K mg "is_state" s_is_state ["value"] f fd) (bi : Bi mg) (G_is_tables : FnOk P w K mg base CX0 4 f_is_tables fd_is_tables ["value"] (spTblsG K)) (D_is_tables : Dn K mg "is_tables" s_is_tables ["value"] f_is_tables fd_is_tables) (G_is_tables_A : FnOk P w K mg base CX0 4 f_is_tables fd_is_tables ["value"] spTbls)    : FnOk P w K mg base CX0 5 f fd ["value"] spSt := by
  refine lt_out ?_
  simp (disch := with_unfolding_all
    refine D.F.ok sc_is_state (fun vs H Q E h => ?_) (fun cdv A outer s H vs Q E hr h => ?_)
    · obtain ⟨x, b, rfl, _⟩ := h
      rfl
    · obtain ⟨x, b, rfl, hj, q⟩ := h
      refine ⟨_, (pss_one (ps_ret (pe_and (pe_callB call_isi (by rfl) bi.isinstance_ (by decide +kernel) (pa_cons (pv 0) (pa_cons (pe_bltn (v := .ty "tuple") (by rfl) bi.tuple_ (by decide +kernel) rfl) pa_nil))) (pe_and (pe_cmpR op_eq (pe_callB cLen (by rfl) bi.len_ (by decide +kernel) (pa_cons (pv 0) pa_nil)) pe_int (nomark _)) (pe_and (pe_cmpR op_eq (pe_ix ix_tup (pv 0) pe_int (fun _ _ => rfl)) pe_str (nomark _)) (pe_one (pe_call G_is_tables_A (hr.mono (by first | decide | exact Nat.le_refl _)) (by rfl) D_is_tables.g D_is_tables.F.kp D_is_tables.b .nil pass0 (pa_cons (pe_ix ix_tup (pv 0) pe_int (fun _ _ => rfl)) pa_nil)))))))), ?_⟩
      refine rd_start (σ := [some x]) rfl ?_
      cases hj with
      | @flat _ h =>
        cases x with
        | non => walk_at "rd"; exact q
        | bl _ => walk_at "rd"; exact q
        | int _ => walk_at "rd"; exact q
        | str _ => walk_at "rd"; exact q
        | ref _ => exact Bool.noConfusion h
        | byt _ => exact Bool.noConfusion h
        | flt _ => exact Bool.noConfusion h
        | ty _ => exact Bool.noConfusion h
      | @lst a xs h => walk_at "rd"; exact q
      | @tupn a xs h n =>
        walk_at "rd"
        refine if_noD (fun z => n (Int.ofNat.inj (V.int.inj z))) ?_
        exact q
      | @st a s v b h hv =>
        walk_at "rd"
        refine if_yesD rfl ?_
        walk_at "rd"
        refine rd_iteD (fun d => ?_) (fun d => ?_)
        · rw [decide_eq_true d, Bool.true_and] at q
          walk_at "rd"
          exact use_tbls hv q
        · rw [decide_eq_false d, Bool.false_and] at q
          exact q
    ) only [↓lt_eq]
theorem ok_is_frame_A {f : Addr} {fd : FuncData} {f_is_layout : Addr} {fd_is_layout : FuncData} {f_is_within : Addr} {fd_is_within : FuncData} {f_is_bits : Addr} {fd_is_bits : FuncData}    (D : Dn K mg "is_frame" s_is_frame ["value"] f fd) (bi : Bi mg) (G_is_layout : FnOk P w K mg base CX0 4 f_is_layout fd_is_layout ["value"] spIsLay) (D_is_layout : Dn K mg "is_layout" s_is_layout ["value"] f_is_layout fd_is_layout) (G_is_within : FnOk P w K mg base CX0 2 f_is_within fd_is_within ["value", "low", "high"] spWithin) (D_is_within : Dn K mg "is_within" s_is_within ["value", "low", "high"] f_is_within fd_is_within) (G_is_bits : FnOk P w K mg base CX0 1 f_is_bits fd_is_bits ["value"] spIsB) (D_is_bits : Dn K mg "is_bits" s_is_bits ["value"] f_is_bits fd_is_bits) (G_is_layout_A : FnOk P w K mg base CX0 4 f_is_layout fd_is_layout ["value"] spLay) (G_is_bits_A : FnOk P w K mg base CX0 1 f_is_bits fd_is_bits ["value"] spBit)   (g_FRAME_ITEMS : ∃ t, mg "FRAME_ITEMS" = some (.int 7 t)) (g_MARK_MODULUS : ∃ t, mg "MARK_MODULUS" = some (.int 9973 t)) : FnOk P w K mg base CX0 5 f fd ["value"] spFr := by
  refine lt_out ?_
  simp (disch := with_unfolding_all
    refine D.F.ok sc_is_frame (fun vs H Q E h => ?_) (fun cdv A outer s H vs Q E hr h => ?_)
    · obtain ⟨x, b, rfl, _⟩ := h
      rfl
    · obtain ⟨x, b, rfl, hj, q⟩ := h
      obtain ⟨t1, g_FRAME_ITEMS⟩ := g_FRAME_ITEMS
      obtain ⟨t2, g_MARK_MODULUS⟩ := g_MARK_MODULUS
      refine ⟨_, (pss_cons (ps_if (PW.pt (pw_or (pt_not (pt_val (pe_callB call_isi (by rfl) bi.isinstance_ (by decide +kernel) (pa_cons (pv 0) (pa_cons (pe_bltn (v := .ty "tuple") (by rfl) bi.tuple_ (by decide +kernel) rfl) pa_nil))))) (pw_or (pt_cmpR op_ne (pe_callB cLen (by rfl) bi.len_ (by decide +kernel) (pa_cons (pv 0) pa_nil)) (pe_glob (v := .int 7) (by rfl) g_FRAME_ITEMS ⟨_, rfl⟩) (nomark _)) (pw_or1 (pt_cmpR op_ne (pe_ix ix_tup (pv 0) pe_int (fun _ _ => rfl)) pe_str (nomark _))))))
   (pss_one (ps_ret pe_bl))
   pss_nil)
   (pss_cons (ps_asg (pe_slice sl_tup (pv 0) (po_some pe_int) po_none) (pg_tup rfl (pgs_cons (pg_name (i := 1) sc_is_frame.nd rfl (Or.inl rfl)) (pgs_cons (pg_name (i := 2) sc_is_frame.nd rfl (Or.inl rfl)) pgs_nil))))
   (pss_one (ps_ret (pe_and (pe_call G_is_layout_A (hr.mono (by first | decide | exact Nat.le_refl _)) (by rfl) D_is_layout.g D_is_layout.F.kp D_is_layout.b .nil pass0 (pa_cons (pe_slice sl_tup (pv 0) (po_some pe_int) (po_some pe_int)) pa_nil)) (pe_and (pe_call G_is_within (hr.mono (by first | decide | exact Nat.le_refl _)) (by rfl) D_is_within.g D_is_within.F.kp D_is_within.b .nil pass0 (pa_cons (pv 1) (pa_cons pe_int (pa_cons (pe_op op_sub (pe_glob (v := .int 9973) (by rfl) g_MARK_MODULUS ⟨_, rfl⟩) pe_int) pa_nil)))) (pe_one (pe_call G_is_bits_A (hr.mono (by first | decide | exact Nat.le_refl _)) (by rfl) D_is_bits.g D_is_bits.F.kp D_is_bits.b .nil pass0 (pa_cons (pv 2) pa_nil))))))))), ?_⟩
      refine rd_start (σ := [some x, none, none]) rfl ?_
      cases hj with
      | @flat _ h =>
        cases x with
        | non => walk_at "rd"; exact q _ (Same.refl _)
        | bl _ => walk_at "rd"; exact q _ (Same.refl _)
        | int _ => walk_at "rd"; exact q _ (Same.refl _)
        | str _ => walk_at "rd"; exact q _ (Same.refl _)
        | ref _ => exact Bool.noConfusion h
        | byt _ => exact Bool.noConfusion h
        | flt _ => exact Bool.noConfusion h
        | ty _ => exact Bool.noConfusion h
      | @lst a xs h => walk_at "rd"; exact q _ (Same.refl _)
      | @tupn a xs h n =>
        walk_at "rd"
        refine if_yesN (fun z => n (Int.ofNat.inj (V.int.inj z))) ?_
        walk_at "rd"
        exact q _ (Same.refl _)
      | @fr a v0 ln jt lv st mk bt b c h h0 hl hj h3 h4 h5 hb =>
        walk_at "rd"
        refine if_noN rfl ?_
        walk_at "rd"
        refine rd_ne (scal_str h0) ?_
        walk_at "rd"
        unfold frB at q
        refine rd_iteN (fun d => ?_) (fun d => ?_)
        · rw [decide_eq_false d, Bool.false_and] at q
          walk_at "rd"
          exact q _ (Same.refl _)
        · rw [decide_eq_true d, Bool.true_and] at q
          walk_at "rd"
          refine rd_slTp (SqT.of h) (ys := [mk, bt]) rfl (show ¬ (HT.sIx 7 0 (some 5) = 0 ∧ HT.sIx 7 7 none = 7) by decide) fun p1 hp1 => ?_
          walk_at "rd"
          refine rd_slTp (SqT.of (look_new hp1 h)) (ys := [ln, jt, lv, st]) rfl (show ¬ (HT.sIx 7 0 (some 1) = 0 ∧ HT.sIx 7 7 (some 5) = 7) by decide) fun p2 hp2 => ?_
          have s2 : Same H (upd (upd H p1 (.tup [mk, bt])) p2 (.tup [ln, jt, lv, st])) := (same_new hp1).trans (same_new hp2)
          walk_at "rd"
          refine use_lay upd_same (tyv_same s2 hl) (hj.same s2) (tyv_same s2 h3) (tyv_same s2 h4) ?_
          have q2 := q _ s2
          refine and_cut (b2 := (inI mk 0 9972 && c)) (fun hq => ?_) q2
          walk_at "rd"
          refine use_within (tyv_same s2 h5) ?_
          refine and_cut (b2 := c) (fun hq => ?_) hq
          walk_at "rd"
          exact use_bit (hb.same s2) hq
    ) only [↓lt_eq]
theorem ok_is_record_A {f : Addr} {fd : FuncData} {f_is_state : Addr} {fd_is_state : FuncData} {f_is_frame : Addr} {fd_is_frame : FuncData}    (D : Dn K mg "is_record" s_is_record ["value"] f fd) (bi : Bi mg) (G_is_state : FnOk P w K mg base CX0 5 f_is_state fd_is_state ["value"] (spIsSt K)) (D_is_state : Dn K mg "is_state" s_is_state ["value"] f_is_state fd_is_state) (G_is_frame : FnOk P w K mg base CX0 5 f_is_frame fd_is_frame ["value"] (spIsFr K)) (D_is_frame : Dn K mg "is_frame" s_is_frame ["value"] f_is_frame fd_is_frame) (G_is_state_A : FnOk P w K mg base CX0 5 f_is_state fd_is_state ["value"] spSt) (G_is_frame_A : FnOk P w K mg base CX0 5 f_is_frame fd_is_frame ["value"] spFr)    : FnOk P w K mg base CX0 6 f fd ["value"] spRec := by
  refine lt_out ?_
  simp (disch := with_unfolding_all
    refine D.F.ok sc_is_record (fun vs H Q E h => ?_) (fun cdv A outer s H vs Q E hr h => ?_)
    · obtain ⟨x, b, rfl, _⟩ := h
      rfl
    · obtain ⟨x, b, rfl, hj, q⟩ := h
      refine ⟨_, (pss_one (ps_ret (pe_or (pe_call G_is_state_A (hr.mono (by first | decide | exact Nat.le_refl _)) (by rfl) D_is_state.g D_is_state.F.kp D_is_state.b .nil pass0 (pa_cons (pv 0) pa_nil)) (pe_one (pe_call G_is_frame_A (hr.mono (by first | decide | exact Nat.le_refl _)) (by rfl) D_is_frame.g D_is_frame.F.kp D_is_frame.b .nil pass0 (pa_cons (pv 0) pa_nil)))))), ?_⟩
      refine rd_start (σ := [some x]) rfl ?_
      walk_at "rd"
      cases hj with
      | flat h =>
        refine use_st (.flat h) ?_
        walk_at "rd"
        exact use_fr (.flat h) q
      | lst h =>
        refine use_st (.lst h) ?_
        walk_at "rd"
        exact use_fr (.lst h) q
      | tupn h n m =>
        refine use_st (.tupn h n) ?_
        walk_at "rd"
        exact use_fr (.tupn h m) q
      | @st a s v b h hv =>
        refine use_st (.st h hv) ?_
        cases hb : (decide (V.str s = V.str (Str.ofString "state")) && b) with
        | true =>
          rw [hb] at q
          walk_at "rd"
          exact q _ (Same.refl _)
        | false =>
          rw [hb] at q
          walk_at "rd"
          exact use_fr (.tupn h (by simp)) q
      | fr h h0 hl hj h3 h4 h5 hb =>
        refine use_st (.tupn h (by simp)) ?_
        walk_at "rd"
        exact use_fr (.fr h h0 hl hj h3 h4 h5 hb) q
    ) only [↓lt_eq]
theorem ok_number_of {f : Addr} {fd : FuncData}     (D : Dn K mg "number_of" s_number_of ["word"] f fd) (bi : Bi mg)     (g_DIGITS : ∃ t, mg "DIGITS" = some (.str (Str.ofString "0123456789") t)) (g_DIGITS_LIMIT : ∃ t, mg "DIGITS_LIMIT" = some (.int 4000 t)) (zdg : DgK K) : FnOk P w K mg base CX0 1 f fd ["word"] spNumV := by
  refine lt_out ?_
  simp (disch := with_unfolding_all
    refine D.F.ok sc_number_of (fun vs H Q E h => ?_) (fun cdv A outer s H vs Q E hr h => ?_)
    · obtain ⟨l, rfl, _⟩ := h
      rfl
    · obtain ⟨l, rfl, hl, q⟩ := h
      obtain ⟨t1, g_DIGITS⟩ := g_DIGITS
      obtain ⟨t2, g_DIGITS_LIMIT⟩ := g_DIGITS_LIMIT
      have hsz : (16000000 : Nat) ≤ sizeLine := by unfold sizeLine; decide
      refine ⟨_, (pss_cons (ps_if (PW.pt (pw_or (pt_not (pt_chain op_le op_le pe_int (pe_callB cLen (by rfl) bi.len_ (by decide +kernel) (pa_cons (pv 0) pa_nil)) (pe_glob (v := .int 4000) (by rfl) g_DIGITS_LIMIT ⟨_, rfl⟩))) (pw_or1 (pt_cmpR op_ne (pe_bm PySem.F.plainAttrs_str PySem.F.slot_str_strip PySem.F.type_str_strip mt_stripK (pv 0) (pa_cons (pe_glob (v := .str (Str.ofString "0123456789")) (by rfl) g_DIGITS ⟨_, rfl⟩) pa_nil)) pe_str (nomark _)))))
   (pss_one (ps_ret pe_non))
   pss_nil)
   (pss_one (ps_ret (pe_ifExp (PW.pt (pw_or (pt_cmpR op_eq (pv 0) pe_str (nomark _)) (pw_or1 (pt_cmpR op_ne (pe_ix ix_str (pv 0) pe_int (fun _ _ => rfl)) pe_str (nomark _))))) (pe_callTy (call_intZ zdg) (by rfl) bi.int_ (by decide +kernel) (pa_cons (pv 0) pa_nil)) pe_non)))), ?_⟩
      refine rd_start (σ := [some (.str (SX.S l))]) rfl ?_
      have q0 : isNum l = false → Q .non H := fun z => by
        unfold numV at q
        rw [z] at q
        exact q
      have hdg : Str.ofString "0123456789" = SX.S [48, 49, 50, 51, 52, 53, 54, 55, 56, 57] := by rfl
      walk_at "rd"
      by_cases h1 : 1 ≤ l.length
      · refine if_yesD (show (1 : Int) ≤ ((l.length : Nat) : Int) by omega) ?_
        walk_at "rd"
        by_cases h2 : l.length ≤ 4000
        · rw [decide_eq_true (show ((l.length : Nat) : Int) ≤ 4000 by omega)]
          refine if_no rfl ?_
          walk_at "rd"
          refine ⟨SX.S l, _, rfl, rfl, by rw [SX.S_len]; omega, ?_⟩
          have hl4 : (SX.S l).length ≤ sizeLine := by rw [SX.S_len]; omega
          by_cases h3 : NumText.AllDigits l
          · have hst : Txt.stripChars (SX.S l) (Str.ofString "0123456789") = Str.ofString "" := by
              rw [e_digits, e_empty]
              refine strip_all fun c hc => ?_
              have := h3 c hc
              simp
              omega
            rw [hst]
            walk_at "rd"
            refine if_noN rfl ?_
            walk_at "rd"
            have hne : l ≠ [] := fun z => by rw [z] at h1; exact absurd h1 (by decide)
            have hin : intText? (SX.S l) = some ((NumText.digitsVal l : Nat) : Int) := intText_digits (x := SX.S l) h3 hne (by rw [SX.S_len]; omega)
            have ha : (l.all fun c => decide (48 ≤ c ∧ c ≤ 57)) = true := List.all_eq_true.mpr fun c hc => decide_eq_true (h3 c hc)
            by_cases z : l = [48]
            · subst z
              refine if_yesD rfl ?_
              walk_at "rd"
              exact rd_intZ hin hl4 q
            · refine if_noD (fun y => z (SX.S_inj (V.str.inj y : SX.S l = SX.S [48]))) ?_
              walk_at "rd"
              obtain ⟨c, r, rfl⟩ : ∃ c r, l = c :: r := by
                cases l with
                | nil => exact absurd rfl hne
                | cons c r => exact ⟨c, r, rfl⟩
              refine rd_ixS (i := 0) rfl (by have h5 : (c :: r).length ≤ sizeLine := hl4; exact h5) (c := c) rfl ?_
              walk_at "rd"
              by_cases y : c = 48
              · subst y
                refine if_noN rfl ?_
                walk_at "rd"
                refine q0 ?_
                unfold isNum
                rw [decide_eq_false z, decide_eq_false (show ¬ (48 :: r).head? ≠ some 48 from fun w => w rfl), Bool.or_false, Bool.and_false]
              · refine if_yesN (fun w => y (by
                  rw [e_0] at w
                  exact (List.cons.inj (SX.S_inj (V.str.inj w))).1)) ?_
                walk_at "rd"
                have hN : isNum (c :: r) = true := by
                  unfold isNum
                  rw [decide_eq_true ⟨h1, h2⟩, ha, decide_eq_true (show (c :: r).head? ≠ some 48 from fun w => y (Option.some.inj w)), Bool.or_true]
                  rfl
                unfold numV at q
                rw [if_pos hN] at q
                exact rd_intZ hin hl4 q
          · walk_at "rd"
            refine if_yesN (fun w => h3 (fun c hc => ?_)) ?_
            · have w := V.str.inj w
              rw [e_digits, e_empty] at w
              have := strip_some w c hc
              simp at this
              omega
            · walk_at "rd"
              refine q0 ?_
              unfold isNum
              have ha : (l.all fun c => decide (48 ≤ c ∧ c ≤ 57)) = false := Bool.eq_false_iff.mpr fun z => h3 fun c hc => of_decide_eq_true (List.all_eq_true.mp z c hc)
              rw [ha, Bool.and_false, Bool.false_and]
        · rw [decide_eq_false (show ¬ ((l.length : Nat) : Int) ≤ 4000 by omega)]
          refine if_yes rfl ?_
          walk_at "rd"
          refine q0 ?_
          unfold isNum
          rw [decide_eq_false (fun z => h2 z.2), Bool.false_and, Bool.false_and]
      · refine if_noD (show ¬ (1 : Int) ≤ ((l.length : Nat) : Int) by omega) ?_
        walk_at "rd"
        refine q0 ?_
        unfold isNum
        rw [decide_eq_false (fun z => h1 z.1), Bool.false_and, Bool.false_and]
    ) only [↓lt_eq]
theorem ok_record_of {f : Addr} {fd : FuncData} {f_number_of : Addr} {fd_number_of : FuncData} {f_is_record : Addr} {fd_is_record : FuncData}    (D : Dn K mg "record_of" s_record_of ["words"] f fd) (bi : Bi mg) (G_number_of : FnOk P w K mg base CX0 1 f_number_of fd_number_of ["word"] spNumV) (D_number_of : Dn K mg "number_of" s_number_of ["word"] f_number_of fd_number_of) (G_is_record : FnOk P w K mg base CX0 6 f_is_record fd_is_record ["value"] (spIsRc K)) (D_is_record : Dn K mg "is_record" s_is_record ["value"] f_is_record fd_is_record) (G_is_record_A : FnOk P w K mg base CX0 6 f_is_record fd_is_record ["value"] spRec)   (g_NO_BITS : ∃ t, mg "NO_BITS" = some (.str (Str.ofString "-") t)) : FnOk P w K mg base CX0 7 f fd ["words"] spRecV := by
  refine lt_out ?_
  simp (disch := with_unfolding_all
    refine D.F.ok sc_record_of (fun vs H Q E h => ?_) (fun cdv A outer s H vs Q E hr h => ?_)
    · obtain ⟨a, ws, rfl, _⟩ := h
      rfl
    · obtain ⟨a, ws, rfl, h, hne, hl, q⟩ := h
      obtain ⟨t1, g_NO_BITS⟩ := g_NO_BITS
      refine ⟨_, (pss_cons (ps_set (i := 1) sc_record_of.nd rfl (Or.inl rfl) pe_non)
   (pss_cons (ps_setLc (i := 2) (own := [("word", 3)]) (g := gName 3) (tt := tYes) rfl sc_record_of.nd rfl rfl (sw_true rfl rfl rfl (by decide +kernel)) (pi_list (pe_slice sl_list (pv 0) (po_some pe_int) (po_some pe_int))) (blkOk_by (N := ["words", "record", "numbers", "word", "length", "width", "shape", "levels", "step", "mark", "bits"]) (sc := defScope s_record_of) (by decide +kernel)) (fun _ _ _ _ _ => pg_name (i := 3) sc_record_of.nd rfl (Or.inl rfl)) (fun _ _ _ _ _ => pts_nil) (fun _ _ _ _ _ => (pe_call G_number_of (hr.mono (by first | decide | exact Nat.le_refl _)) (by rfl) D_number_of.g D_number_of.F.kp D_number_of.b .nil pass0 (pa_cons (pv 3) pa_nil))))
   (pss_cons (ps_if (PW.pt (pw_and (pt_cmpR op_eq (pe_ix ix_list (pv 0) pe_int (fun _ _ => rfl)) pe_str (nomark _)) (pw_and1 (pt_cmpR op_eq (pe_callB cLen (by rfl) bi.len_ (by decide +kernel) (pa_cons (pv 0) pa_nil)) pe_int (nomark _)))))
   (pss_one (ps_set (i := 1) sc_record_of.nd rfl (Or.inl rfl) (pe_tup (pa_cons pe_str (pa_cons (pe_tup (pa_cons (pe_callTy cTuple (by rfl) bi.tuple_ (by decide +kernel) (pa_cons (pe_slice sl_list (pv 2) po_none (po_some pe_int)) pa_nil)) (pa_cons (pe_callTy cTuple (by rfl) bi.tuple_ (by decide +kernel) (pa_cons (pe_slice sl_list (pv 2) (po_some pe_int) po_none) pa_nil)) pa_nil))) pa_nil)))))
   (pss_one (ps_if (PW.pt (pw_and (pt_cmpR op_eq (pe_ix ix_list (pv 0) pe_int (fun _ _ => rfl)) pe_str (nomark _)) (pw_and (pt_cmpR op_eq (pe_callB cLen (by rfl) bi.len_ (by decide +kernel) (pa_cons (pv 0) pa_nil)) pe_int (nomark _)) (pw_and1 (pt_cmpR op_ne (pe_ix ix_list (pv 0) pe_int (fun _ _ => rfl)) pe_str (nomark _))))))
   (pss_cons (ps_asg (pv 2) (pg_lst rfl (pgs_cons (pg_name (i := 4) sc_record_of.nd rfl (Or.inl rfl)) (pgs_cons (pg_name (i := 5) sc_record_of.nd rfl (Or.inl rfl)) (pgs_cons (pg_name (i := 6) sc_record_of.nd rfl (Or.inl rfl)) (pgs_cons (pg_name (i := 7) sc_record_of.nd rfl (Or.inl rfl)) (pgs_cons (pg_name (i := 8) sc_record_of.nd rfl (Or.inl rfl)) (pgs_cons (pg_name (i := 9) sc_record_of.nd rfl (Or.inl rfl)) pgs_nil))))))))
   (pss_cons (ps_set (i := 10) sc_record_of.nd rfl (Or.inl rfl) (pe_ifExp (pt_cmpR op_eq (pe_ix ix_list (pv 0) pe_int (fun _ _ => rfl)) (pe_glob (v := .str (Str.ofString "-")) (by rfl) g_NO_BITS ⟨_, rfl⟩) (nomark _)) pe_str (pe_ix ix_list (pv 0) pe_int (fun _ _ => rfl))))
   (pss_one (ps_set (i := 1) sc_record_of.nd rfl (Or.inl rfl) (pe_tup (pa_cons pe_str (pa_cons (pv 4) (pa_cons (pe_tup (pa_cons (pv 5) (pa_cons (pv 6) pa_nil))) (pa_cons (pv 7) (pa_cons (pv 8) (pa_cons (pv 9) (pa_cons (pv 10) pa_nil))))))))))))
   pss_nil)))
   (pss_one (ps_ret (pe_ifExp (pt_val (pe_call G_is_record_A (hr.mono (by first | decide | exact Nat.le_refl _)) (by rfl) D_is_record.g D_is_record.F.kp D_is_record.b .nil pass0 (pa_cons (pv 1) pa_nil))) (pv 1) pe_non)))))), ?_⟩
      refine rd_start (σ := [some (.ref a), none, none, none, none, none, none, none, none, none, none]) rfl ?_
      walk_at "rd"
      have h17 : cutV (ws.map V.str) (some 1) (some 7) = ((ws.drop 1).take 6).map V.str := by
        rw [cut17 _ (by rw [List.length_map]; exact List.length_pos_iff.mpr hne), List.map_take, List.map_drop]
      refine ⟨a, _, rfl, SqL.of h, fun p0 hp0 => ?_⟩
      rw [h17]
      have sp0 := same_new (o := .lst (((ws.drop 1).take 6).map V.str)) hp0
      walk_at "rd"
      refine ⟨p0, rfl, ⟨_, SqL.of upd_same⟩, fun D hD => ?_⟩
      refine lc_numV (xs := (ws.drop 1).take 6) (SqL.of upd_same) (by rw [List.length_take]; omega) (fun _ => rfl) hD (fun z hz H2 Q' s2 hq => ?_) fun H1 s1 eD => ?_
      · walk_at "rd"
        exact use_nbW (hl z (List.mem_of_mem_drop (List.mem_of_mem_take hz))) hq
      have s01 := sp0.trans s1
      have h1 := s01 _ _ h
      rcases words_forms hne with ⟨w1, w2, w3, w4, rfl⟩ | ⟨w1, w2, w3, w4, w5, w6, w7, rfl, hw7⟩ | ⟨w0, r, rfl, n1, n2⟩
      · have hrB : recB [Str.ofString "state", w1, w2, w3, w4] = (tt (numV w1.cps.toList) (numV w2.cps.toList) && tt (numV w3.cps.toList) (numV w4.cps.toList)) := by
          unfold recB
          rw [if_pos ⟨rfl, rfl⟩]
          rfl
        have h1 : H1 a = some (.lst [.str (Str.ofString "state"), .str w1, .str w2, .str w3, .str w4]) := h1
        have eD : H1 D = some (.lst [numV w1.cps.toList, numV w2.cps.toList, numV w3.cps.toList, numV w4.cps.toList]) := eD
        walk_at "rd"
        refine if_yesD rfl ?_
        walk_at "rd"
        refine if_yesD rfl ?_
        walk_at "rd"
        refine ⟨D, _, rfl, SqL.of eD, fun p1 hp1 => ?_⟩
        rw [show cutV [numV w1.cps.toList, numV w2.cps.toList, numV w3.cps.toList, numV w4.cps.toList] none (some 2) = [numV w1.cps.toList, numV w2.cps.toList] from rfl]
        have sp1 := same_new (o := .lst [numV w1.cps.toList, numV w2.cps.toList]) hp1
        walk_at "rd"
        rename_i t1a ht1
        have st1 := same_new (o := .tup [numV w1.cps.toList, numV w2.cps.toList]) ht1
        refine ⟨D, _, rfl, SqL.of (st1 _ _ (sp1 _ _ eD)), fun p2 hp2 => ?_⟩
        rw [show cutV [numV w1.cps.toList, numV w2.cps.toList, numV w3.cps.toList, numV w4.cps.toList] (some 2) none = [numV w3.cps.toList, numV w4.cps.toList] from rfl]
        have sp2 := same_new (o := .lst [numV w3.cps.toList, numV w4.cps.toList]) hp2
        walk_at "rd"
        rename_i t2a ht2 t3a ht3 t4a ht4
        have st2 := same_new (o := .tup [numV w3.cps.toList, numV w4.cps.toList]) ht2
        have st3 := same_new (o := .tup [.ref t1a, .ref t2a]) ht3
        have st4 := same_new (o := .tup [.str (Str.ofString "state"), .ref t3a]) ht4
        have f3 := st4 _ _ (upd_same (a := t3a) (o := .tup [.ref t1a, .ref t2a]))
        have f1 := st4 _ _ (st3 _ _ (st2 _ _ (sp2 _ _ (upd_same (a := t1a) (o := .tup [numV w1.cps.toList, numV w2.cps.toList])))))
        have f2 := st4 _ _ (st3 _ _ (upd_same (a := t2a) (o := .tup [numV w3.cps.toList, numV w4.cps.toList])))
        refine use_rec (RecR.st upd_same (TSR.tup2 f3 (TR.tup2 f1 (numV_ty _) (numV_ty _)) (TR.tup2 f2 (numV_ty _) (numV_ty _)))) fun H2 s2 => ?_
        have sA := s01.trans (sp1.trans (st1.trans (sp2.trans (st2.trans (st3.trans (st4.trans s2))))))
        have e4 := s2 _ _ (upd_same (a := t4a) (o := .tup [.str (Str.ofString "state"), .ref t3a]))
        rw [decide_eq_true rfl, Bool.true_and]
        cases hb : (tt (numV w1.cps.toList) (numV w2.cps.toList) && tt (numV w3.cps.toList) (numV w4.cps.toList)) with
        | true =>
          walk_at "rd"
          exact q _ _ sA (fun _ => ⟨t4a, rfl, .inl ⟨t3a, t1a, t2a, rfl, rfl, e4, s2 _ _ f3, s2 _ _ f1, s2 _ _ f2⟩⟩) (fun z => by rw [hrB, hb] at z; cases z)
        | false =>
          walk_at "rd"
          exact q _ _ sA (fun z => by rw [hrB, hb] at z; cases z) (fun _ => rfl)
      · have hrB : recB [Str.ofString "frame", w1, w2, w3, w4, w5, w6, w7] = frB (.str (Str.ofString "frame")) (numV w1.cps.toList) (jt (numV w2.cps.toList) (numV w3.cps.toList)) (numV w4.cps.toList) (numV w5.cps.toList) (numV w6.cps.toList) (bitsOf (bitW w7)) := by
          unfold recB
          rw [if_neg (fun z => st_ne_frS (Option.some.inj z.1)), if_pos ⟨rfl, rfl, hw7⟩]
          rfl
        have h1 : H1 a = some (.lst [.str (Str.ofString "frame"), .str w1, .str w2, .str w3, .str w4, .str w5, .str w6, .str w7]) := h1
        have eD : H1 D = some (.lst [numV w1.cps.toList, numV w2.cps.toList, numV w3.cps.toList, numV w4.cps.toList, numV w5.cps.toList, numV w6.cps.toList]) := eD
        have hbl : (bitW w7).length ≤ 16000000 := by
          unfold bitW
          split
          · decide +kernel
          · exact hl w7 (by simp)
        walk_at "rd"
        refine if_noD (fun z => absurd (V.str.inj z) (by decide +kernel)) ?_
        walk_at "rd"
        refine if_yesD rfl ?_
        walk_at "rd"
        refine if_yesD rfl ?_
        walk_at "rd"
        refine if_yesN (fun z => hw7 (V.str.inj z)) ?_
        walk_at "rd"
        refine ⟨D, _, rfl, SqL.of eD, rfl, ?_⟩
        walk_at "rd"
        by_cases c7 : w7 = Str.ofString "-"
        · have e7 : bitW w7 = Str.ofString "" := if_pos c7
          refine if_yesD (congrArg V.str c7) ?_
          walk_at "rd"
          rw [← e7]
          walk_at "rd"
          rename_i t3a ht3 t4a ht4
          have st3 := same_new (o := .tup [numV w2.cps.toList, numV w3.cps.toList]) ht3
          have st4 := same_new (o := .tup [.str (Str.ofString "frame"), numV w1.cps.toList, .ref t3a, numV w4.cps.toList, numV w5.cps.toList, numV w6.cps.toList, .str (bitW w7)]) ht4
          refine use_rec (RecR.fr upd_same rfl (numV_ty _) (JR.tup2 (st4 _ _ upd_same) (numV_ty _) (numV_ty _)) (numV_ty _) (numV_ty _) (numV_ty _) (BitR.str hbl)) fun H2 s2 => ?_
          have sA := s01.trans (st3.trans (st4.trans s2))
          have e4 := s2 _ _ (upd_same (H := _) (a := t4a) (o := .tup [.str (Str.ofString "frame"), numV w1.cps.toList, .ref t3a, numV w4.cps.toList, numV w5.cps.toList, numV w6.cps.toList, .str (bitW w7)]))
          have e3 := s2 _ _ (st4 _ _ upd_same)
          cases hb : frB (.str (Str.ofString "frame")) (numV w1.cps.toList) (jt (numV w2.cps.toList) (numV w3.cps.toList)) (numV w4.cps.toList) (numV w5.cps.toList) (numV w6.cps.toList) (bitsOf (bitW w7)) with
          | true =>
            walk_at "rd"
            exact q _ _ sA (fun _ => ⟨t4a, rfl, .inr ⟨t3a, rfl, rfl, e4, e3⟩⟩) (fun z => by rw [hrB, hb] at z; cases z)
          | false =>
            walk_at "rd"
            exact q _ _ sA (fun z => by rw [hrB, hb] at z; cases z) (fun _ => rfl)
        · have e7 : bitW w7 = w7 := if_neg c7
          refine if_noD (fun z => c7 (V.str.inj z)) ?_
          walk_at "rd"
          rw [← e7]
          walk_at "rd"
          rename_i t3a ht3 t4a ht4
          have st3 := same_new (o := .tup [numV w2.cps.toList, numV w3.cps.toList]) ht3
          have st4 := same_new (o := .tup [.str (Str.ofString "frame"), numV w1.cps.toList, .ref t3a, numV w4.cps.toList, numV w5.cps.toList, numV w6.cps.toList, .str (bitW w7)]) ht4
          refine use_rec (RecR.fr upd_same rfl (numV_ty _) (JR.tup2 (st4 _ _ upd_same) (numV_ty _) (numV_ty _)) (numV_ty _) (numV_ty _) (numV_ty _) (BitR.str hbl)) fun H2 s2 => ?_
          have sA := s01.trans (st3.trans (st4.trans s2))
          have e4 := s2 _ _ (upd_same (H := _) (a := t4a) (o := .tup [.str (Str.ofString "frame"), numV w1.cps.toList, .ref t3a, numV w4.cps.toList, numV w5.cps.toList, numV w6.cps.toList, .str (bitW w7)]))
          have e3 := s2 _ _ (st4 _ _ upd_same)
          cases hb : frB (.str (Str.ofString "frame")) (numV w1.cps.toList) (jt (numV w2.cps.toList) (numV w3.cps.toList)) (numV w4.cps.toList) (numV w5.cps.toList) (numV w6.cps.toList) (bitsOf (bitW w7)) with
          | true =>
            walk_at "rd"
            exact q _ _ sA (fun _ => ⟨t4a, rfl, .inr ⟨t3a, rfl, rfl, e4, e3⟩⟩) (fun z => by rw [hrB, hb] at z; cases z)
          | false =>
            walk_at "rd"
            exact q _ _ sA (fun z => by rw [hrB, hb] at z; cases z) (fun _ => rfl)
      · have h1 : H1 a = some (.lst (.str w0 :: r.map V.str)) := h1
        walk_at "rd"
        by_cases c0 : w0 = Str.ofString "state"
        · refine if_yesD (congrArg V.str c0) ?_
          walk_at "rd"
          refine if_noD (fun z => n1 ⟨c0, by have z := V.int.inj z; rw [List.length_map, List.length_cons] at z; omega⟩) ?_
          walk_at "rd"
          by_cases c1 : w0 = Str.ofString "frame"
          · refine if_yesD (congrArg V.str c1) ?_
            walk_at "rd"
            by_cases c2 : r.length = 7
            · have hw := n2 c1 c2
              match r, c2, hw, h1, n1, n2, q with
              | [w1, w2, w3, w4, w5, w6, w7], _, hw, h1, n1, n2, q =>
              have hw : w7 = Str.ofString "" := hw
              have h1 : H1 a = some (.lst [.str w0, .str w1, .str w2, .str w3, .str w4, .str w5, .str w6, .str w7]) := h1
              refine if_yesD rfl ?_
              walk_at "rd"
              refine if_noN (congrArg V.str hw) ?_
              walk_at "rd"
              refine use_rec (.flat rfl) fun H2 s2 => ?_
              walk_at "rd"
              exact q _ _ (s01.trans s2) (fun z => by rw [recB_no n1 n2] at z; cases z) (fun _ => rfl)
            · refine if_noD (fun z => c2 (by have z := V.int.inj z; rw [List.length_map, List.length_cons] at z; omega)) ?_
              walk_at "rd"
              refine use_rec (.flat rfl) fun H2 s2 => ?_
              walk_at "rd"
              exact q _ _ (s01.trans s2) (fun z => by rw [recB_no n1 n2] at z; cases z) (fun _ => rfl)
          · refine if_noD (fun z => c1 (V.str.inj z)) ?_
            walk_at "rd"
            refine use_rec (.flat rfl) fun H2 s2 => ?_
            walk_at "rd"
            exact q _ _ (s01.trans s2) (fun z => by rw [recB_no n1 n2] at z; cases z) (fun _ => rfl)
        · refine if_noD (fun z => c0 (V.str.inj z)) ?_
          walk_at "rd"
          by_cases c1 : w0 = Str.ofString "frame"
          · refine if_yesD (congrArg V.str c1) ?_
            walk_at "rd"
            by_cases c2 : r.length = 7
            · have hw := n2 c1 c2
              match r, c2, hw, h1, n1, n2, q with
              | [w1, w2, w3, w4, w5, w6, w7], _, hw, h1, n1, n2, q =>
              have hw : w7 = Str.ofString "" := hw
              have h1 : H1 a = some (.lst [.str w0, .str w1, .str w2, .str w3, .str w4, .str w5, .str w6, .str w7]) := h1
              refine if_yesD rfl ?_
              walk_at "rd"
              refine if_noN (congrArg V.str hw) ?_
              walk_at "rd"
              refine use_rec (.flat rfl) fun H2 s2 => ?_
              walk_at "rd"
              exact q _ _ (s01.trans s2) (fun z => by rw [recB_no n1 n2] at z; cases z) (fun _ => rfl)
            · refine if_noD (fun z => c2 (by have z := V.int.inj z; rw [List.length_map, List.length_cons] at z; omega)) ?_
              walk_at "rd"
              refine use_rec (.flat rfl) fun H2 s2 => ?_
              walk_at "rd"
              exact q _ _ (s01.trans s2) (fun z => by rw [recB_no n1 n2] at z; cases z) (fun _ => rfl)
          · refine if_noD (fun z => c1 (V.str.inj z)) ?_
            walk_at "rd"
            refine use_rec (.flat rfl) fun H2 s2 => ?_
            walk_at "rd"
            exact q _ _ (s01.trans s2) (fun z => by rw [recB_no n1 n2] at z; cases z) (fun _ => rfl)
    ) only [↓lt_eq]
theorem ok_check_behind {f : Addr} {fd : FuncData}     (D : Dn K mg "check_behind" s_check_behind ["words", "check"] f fd) (bi : Bi mg)     (g_SIGNS : ∃ t, mg "SIGNS" = some (.str (Str.ofString "0123456789abcdefghijklmnopqrstuvwxyz -") t)) (g_CHECK_FACTOR : ∃ t, mg "CHECK_FACTOR" = some (.int 41 t)) (g_CHECK_MODULUS : ∃ t, mg "CHECK_MODULUS" = some (.int 1000003 t)) : FnOk P w K mg base CX0 1 f fd ["words", "check"] spChkB := by
  refine lt_out ?_
  simp (disch := with_unfolding_all
    refine D.F.ok sc_check_behind (fun vs H Q E h => ?_) (fun cdv A outer s H vs Q E hr h => ?_)
    · obtain ⟨x, c, rfl, _⟩ := h
      rfl
    · obtain ⟨x, c, rfl, hc, q⟩ := h
      obtain ⟨t3, g_SIGNS⟩ := g_SIGNS
      obtain ⟨t1, g_CHECK_FACTOR⟩ := g_CHECK_FACTOR
      obtain ⟨t2, g_CHECK_MODULUS⟩ := g_CHECK_MODULUS
      refine ⟨_, (pss_cons (ps_for PassesOwn.never rfl (pi_str (pv 0)) (pg_name (i := 2) sc_check_behind.nd rfl (Or.inl rfl))
   (pss_one (ps_set (i := 1) sc_check_behind.nd rfl (Or.inl rfl) (pe_op op_mod (pe_op op_add (pe_op op_add (pe_op op_mul (pv 1) (pe_glob (v := .int 41) (by rfl) g_CHECK_FACTOR ⟨_, rfl⟩)) (pe_bm PySem.F.plainAttrs_str PySem.F.slot_str_find PySem.F.type_str_find mt_find (pe_glob (v := .str (Str.ofString "0123456789abcdefghijklmnopqrstuvwxyz -")) (by rfl) g_SIGNS ⟨_, rfl⟩) (pa_cons (pv 2) pa_nil))) pe_int) (pe_glob (v := .int 1000003) (by rfl) g_CHECK_MODULUS ⟨_, rfl⟩)))))
   (pss_one (ps_ret (pv 1)))), ?_⟩
      refine rd_start (σ := [some (.str x), some (.int c), none]) rfl ?_
      walk_at "rd"
      refine rd_forX ?_
      walk_at "rd"
      refine ⟨x, rfl, ?_⟩
      refine for_signs (fun i σ H' => ∃ t, σ = [some (.str x), some (.int (chkL c (x.cps.toList.take i))), t] ∧ H' = H) ⟨none, rfl, rfl⟩ (fun i s σ H1 hs hI => ?_) (fun σ H1 hI => ?_)
      · obtain ⟨t, rfl, rfl⟩ := hI
        have hb := chkL_le hc (x.cps.toList.take i)
        walk_at "rd"
        refine ⟨_, _, rfl, rfl, ?_⟩
        walk_at "rd"
        exact ⟨_, by rw [chk_take c hs]; rfl, rfl⟩
      · obtain ⟨t, rfl, rfl⟩ := hI
        rw [chk_end]
        walk_at "rd"
        exact q
    ) only [↓lt_eq]
theorem ok_valid_records {f : Addr} {fd : FuncData} {f_record_of : Addr} {fd_record_of : FuncData} {f_check_behind : Addr} {fd_check_behind : FuncData} {C_ParseError : Addr}   (D : Dn K mg "valid_records" s_valid_records ["text"] f fd) (bi : Bi mg) (G_record_of : FnOk P w K mg base CX0 7 f_record_of fd_record_of ["words"] spRecV) (D_record_of : Dn K mg "record_of" s_record_of ["words"] f_record_of fd_record_of) (G_check_behind : FnOk P w K mg base CX0 1 f_check_behind fd_check_behind ["words", "check"] spChkB) (D_check_behind : Dn K mg "check_behind" s_check_behind ["words", "check"] f_check_behind fd_check_behind)   (T_ParseError : ErrK P w K mg base "ParseError" "line" C_ParseError) (g_MARK : ∃ t, mg "MARK" = some (.str (Str.ofString " #") t)) (g_CHECK_START : ∃ t, mg "CHECK_START" = some (.int 1 t)) : FnOk P w K mg base (L2.CX P w) 8 f fd ["text"] (spValidY C_ParseError) := by
  refine lt_out ?_
  simp (disch := with_unfolding_all
    refine D.F.okX sc_valid_records (fun vs H Q E h => ?_) (fun cdv A outer s H vs Q E hr h => ?_)
    · rcases h with ⟨v, rfl, _⟩ | ⟨x, xs, rest, rfl, _⟩ <;> rfl
    · rcases h with ⟨v, rfl, ⟨ht, hv⟩, he⟩ | ⟨x, xs, rest, rfl, hX, hl, q⟩
      · obtain ⟨t1, g_MARK⟩ := g_MARK
        obtain ⟨t2, g_CHECK_START⟩ := g_CHECK_START
        refine ⟨_, (pss_cons (ps_if (pt_not (pt_val (pe_callB call_isi (by rfl) bi.isinstance_ (by decide +kernel) (pa_cons (pv 0) (pa_cons (pe_bltn (v := .ty "str") (by rfl) bi.str_ (by decide +kernel) rfl) pa_nil)))))
   (pss_one (ps_raiseE T_ParseError rfl (hr.mono (by first | decide | exact Nat.le_refl _)) (takes_of rfl rfl rfl rfl) (pa_cons pe_non pa_nil)))
   pss_nil)
   (pss_cons (ps_set (i := 1) sc_valid_records.nd rfl (Or.inl rfl) (pe_lst pa_nil))
   (pss_cons (ps_set (i := 2) sc_valid_records.nd rfl (Or.inl rfl) (pe_glob (v := .int 1) (by rfl) g_CHECK_START ⟨_, rfl⟩))
   (C8.pss_cut (ps_set (i := 3) sc_valid_records.nd rfl (Or.inl rfl) (pe_ifExp (pt_truth (pv 0) (by intro _; rfl)) (pe_bm PySem.F.plainAttrs_str PySem.F.slot_str_split PySem.F.type_str_split mt_splitT (pv 0) (pa_cons pe_str pa_nil)) (pe_lst pa_nil)))
   (pss_cons (ps_for (passes_of rfl) rfl (pi_enum (by rfl) bi.enumerate_ (pa_cons (pv 3) pa_nil)) (pg_tup rfl (pgs_cons (pg_name (i := 4) sc_valid_records.nd rfl (Or.inl rfl)) (pgs_cons (pg_name (i := 5) sc_valid_records.nd rfl (Or.inl rfl)) pgs_nil)))
   (pss_cons (ps_asg (pe_bm PySem.F.plainAttrs_str PySem.F.slot_str_rpartition PySem.F.type_str_rpartition mt_rpartition (pv 5) (pa_cons (pe_glob (v := .str (Str.ofString " #")) (by rfl) g_MARK ⟨_, rfl⟩) pa_nil)) (pg_tup rfl (pgs_cons (pg_name (i := 6) sc_valid_records.nd rfl (Or.inl rfl)) (pgs_cons (pg_name (i := 7) sc_valid_records.nd rfl (Or.inl rfl)) (pgs_cons (pg_name (i := 8) sc_valid_records.nd rfl (Or.inl rfl)) pgs_nil)))))
   (pss_cons (ps_set (i := 9) sc_valid_records.nd rfl (Or.inl rfl) (pe_call G_record_of (hr.mono (by first | decide | exact Nat.le_refl _)) (by rfl) D_record_of.g D_record_of.F.kp D_record_of.b .nil pass0 (pa_cons (pe_bm PySem.F.plainAttrs_str PySem.F.slot_str_split PySem.F.type_str_split mt_splitT (pv 6) (pa_cons pe_str pa_nil)) pa_nil)))
   (pss_cons (ps_if (pt_cmpR cIsN (pv 9) pe_non (nomark _))
   (pss_one (ps_ret (pe_tup (pa_cons (pv 1) (pa_cons (pe_op op_add (pv 4) pe_int) pa_nil)))))
   pss_nil)
   (pss_cons (ps_set (i := 2) sc_valid_records.nd rfl (Or.inl rfl) (pe_call G_check_behind (hr.mono (by first | decide | exact Nat.le_refl _)) (by rfl) D_check_behind.g D_check_behind.F.kp D_check_behind.b .nil pass0 (pa_cons (pv 6) (pa_cons (pv 2) pa_nil))))
   (pss_cons (ps_if (pt_cmpR op_ne (pv 8) (pe_callTy (show CallR _ (.type "str") _ from call_str_int) (by rfl) bi.str_ (by decide +kernel) (pa_cons (pv 2) pa_nil)) (nomark _))
   (pss_one (ps_ret (pe_tup (pa_cons (pv 1) (pa_cons (pe_op op_add (pv 4) pe_int) pa_nil)))))
   pss_nil)
   (pss_one (ps_expr (pe_bm PySem.F.plainAttrs_list PySem.F.slot_list_append PySem.F.type_list_append mt_append (pv 1) (pa_cons (pv 9) pa_nil))))))))))
   (pss_one (ps_ret (pe_tup (pa_cons (pv 1) (pa_cons pe_non pa_nil)))))))))), ?_⟩
        refine rd_start (σ := [some v, none, none, none, none, none, none, none, none, none]) rfl ?_
        cases v with
        | non => walk_at "rd"; exact he.now
        | bl _ => walk_at "rd"; exact he.now
        | int _ => walk_at "rd"; exact he.now
        | str s => exact absurd rfl (hv s)
        | ref a =>
          rcases ht with ⟨xs, ht⟩ | ⟨xs, ht⟩
          · walk_at "rd"; exact he.now
          · walk_at "rd"; exact he.now
        | byt _ => exact ht.elim
        | flt _ => exact ht.elim
        | ty _ => exact ht.elim
      obtain ⟨ok, hlen, hz0, hsp, hrest⟩ := hX
      obtain ⟨t1, g_MARK⟩ := g_MARK
      obtain ⟨t2, g_CHECK_START⟩ := g_CHECK_START
      refine ⟨_, (pss_cons (ps_if (pt_not (pt_val (pe_callB call_isi (by rfl) bi.isinstance_ (by decide +kernel) (pa_cons (pv 0) (pa_cons (pe_bltn (v := .ty "str") (by rfl) bi.str_ (by decide +kernel) rfl) pa_nil)))))
   (pss_one (ps_raiseE T_ParseError rfl (hr.mono (by first | decide | exact Nat.le_refl _)) (takes_of rfl rfl rfl rfl) (pa_cons pe_non pa_nil)))
   pss_nil)
   (pss_cons (ps_set (i := 1) sc_valid_records.nd rfl (Or.inl rfl) (pe_lst pa_nil))
   (pss_cons (ps_set (i := 2) sc_valid_records.nd rfl (Or.inl rfl) (pe_glob (v := .int 1) (by rfl) g_CHECK_START ⟨_, rfl⟩))
   (C8.pss_cut (ps_set (i := 3) sc_valid_records.nd rfl (Or.inl rfl) (pe_ifExp (pt_truth (pv 0) (by intro _; rfl)) (pe_bm PySem.F.plainAttrs_str PySem.F.slot_str_split PySem.F.type_str_split mt_splitT (pv 0) (pa_cons pe_str pa_nil)) (pe_lst pa_nil)))
   (pss_cons (ps_for (passes_of rfl) rfl (pi_enum (by rfl) bi.enumerate_ (pa_cons (pv 3) pa_nil)) (pg_tup rfl (pgs_cons (pg_name (i := 4) sc_valid_records.nd rfl (Or.inl rfl)) (pgs_cons (pg_name (i := 5) sc_valid_records.nd rfl (Or.inl rfl)) pgs_nil)))
   (pss_cons (ps_asg (pe_bm PySem.F.plainAttrs_str PySem.F.slot_str_rpartition PySem.F.type_str_rpartition mt_rpartition (pv 5) (pa_cons (pe_glob (v := .str (Str.ofString " #")) (by rfl) g_MARK ⟨_, rfl⟩) pa_nil)) (pg_tup rfl (pgs_cons (pg_name (i := 6) sc_valid_records.nd rfl (Or.inl rfl)) (pgs_cons (pg_name (i := 7) sc_valid_records.nd rfl (Or.inl rfl)) (pgs_cons (pg_name (i := 8) sc_valid_records.nd rfl (Or.inl rfl)) pgs_nil)))))
   (pss_cons (ps_set (i := 9) sc_valid_records.nd rfl (Or.inl rfl) (pe_call G_record_of (hr.mono (by first | decide | exact Nat.le_refl _)) (by rfl) D_record_of.g D_record_of.F.kp D_record_of.b .nil pass0 (pa_cons (pe_bm PySem.F.plainAttrs_str PySem.F.slot_str_split PySem.F.type_str_split mt_splitT (pv 6) (pa_cons pe_str pa_nil)) pa_nil)))
   (pss_cons (ps_if (pt_cmpR cIsN (pv 9) pe_non (nomark _))
   (pss_one (ps_ret (pe_tup (pa_cons (pv 1) (pa_cons (pe_op op_add (pv 4) pe_int) pa_nil)))))
   pss_nil)
   (pss_cons (ps_set (i := 2) sc_valid_records.nd rfl (Or.inl rfl) (pe_call G_check_behind (hr.mono (by first | decide | exact Nat.le_refl _)) (by rfl) D_check_behind.g D_check_behind.F.kp D_check_behind.b .nil pass0 (pa_cons (pv 6) (pa_cons (pv 2) pa_nil))))
   (pss_cons (ps_if (pt_cmpR op_ne (pv 8) (pe_callTy (show CallR _ (.type "str") _ from call_str_int) (by rfl) bi.str_ (by decide +kernel) (pa_cons (pv 2) pa_nil)) (nomark _))
   (pss_one (ps_ret (pe_tup (pa_cons (pv 1) (pa_cons (pe_op op_add (pv 4) pe_int) pa_nil)))))
   pss_nil)
   (pss_one (ps_expr (pe_bm PySem.F.plainAttrs_list PySem.F.slot_list_append PySem.F.type_list_append mt_append (pv 1) (pa_cons (pv 9) pa_nil))))))))))
   (pss_one (ps_ret (pe_tup (pa_cons (pv 1) (pa_cons pe_non pa_nil)))))))))), ?_⟩
      refine rd_start (σ := [some (.str x), none, none, none, none, none, none, none, none, none]) rfl ?_
      walk_at "rd"
      rename_i R hR
      refine rd_cut (fun σ H' => ∃ L, σ = [some (.str x), some (.ref R), some (.int 1), some (.ref L), none, none, none, none, none, none] ∧ H' L = some (.lst ((linesW 1 xs ++ rest).map V.str)) ∧ H' R = some (.lst []) ∧ R ≠ L ∧ Same H H') ?_ (fun σ H1 hM => ?_)
      · walk_at "rd"
        refine ⟨_, ⟨Nat.le_trans hlen (by unfold sizeLine; decide), rfl⟩, ?_⟩
        by_cases h0 : x.length = 0
        · obtain ⟨rfl, rfl⟩ := hz0 h0
          refine if_no (by rw [h0]; rfl) ?_
          walk_at "rd"
          rename_i L hL
          exact ⟨L, rfl, upd_same, look_new hL upd_same, ne_of_none upd_same hL, (same_new hR).trans (same_new hL)⟩
        · refine if_yes (by simpa using h0) ?_
          walk_at "rd"
          refine rd_splitT (by decide +kernel) (by omega) (hsp h0) fun L hL => ?_
          walk_at "rd"
          exact ⟨L, rfl, upd_same, look_new hL upd_same, ne_of_none upd_same hL, (same_new hR).trans (same_new hL)⟩
      · obtain ⟨L, rfl, eL, eR, nRL, s1⟩ := hM
        have hRn : H R = none := hR
        walk_at "rd"
        refine rd_lpE (SqL.of eL) ?_
        refine for_enum (xs := (linesW 1 xs ++ rest).map V.str) (fun i σ H' => ∃ refs x4 x5 x6 x7 x8 x9, σ = [some (.str x), some (.ref R), some (.int (chkW 1 (xs.take i))), some (.ref L), x4, x5, x6, x7, x8, x9] ∧ i ≤ xs.length ∧ H' R = some (.lst refs) ∧ RsSh H' refs (xs.take i) ∧ H' L = some (.lst ((linesW 1 xs ++ rest).map V.str)) ∧ Same H H') ⟨[], none, none, none, none, none, none, rfl, Nat.zero_le _, eR, .nil, eL, s1⟩ (fun i σ H' _ hI => ?_) (fun i v σ H2 T hv hI hT => ?_) (fun σ H2 hI => ?_)
        · obtain ⟨refs, x4, x5, x6, x7, x8, x9, rfl, hi, eR2, hRs, eL2, sm⟩ := hI
          exact SqL.of eL2
        · obtain ⟨refs, x4, x5, x6, x7, x8, x9, rfl, hi, eR2, hRs, eL2, sm⟩ := hI
          have hcl := chkW_le (xs.take i) 1 (by decide) (by decide)
          have sT := same_new (o := .tup [.int (i : Nat), v]) hT
          have lw := hRs.len
          rw [List.length_take] at lw
          by_cases hir : i < xs.length
          · obtain ⟨ws, hr⟩ : ∃ ws, xs[i]? = some ws := ⟨_, List.getElem?_eq_getElem hir⟩
            obtain rfl : v = .str (lineS (bodW ws) (chkS (chkW 1 (xs.take i)) (bodW ws))) := by
              rw [List.getElem?_map, List.getElem?_append_left (by rw [linesW_length]; exact hir), linesW_get xs 1 i ws hr] at hv
              exact (Option.some.inj hv).symm
            have okr := ok ws (List.mem_of_getElem? hr)
            have hil := (List.getElem?_eq_some_iff.mp hr).1
            have hc := chkL_le hcl (bodW ws).cps.toList
            have hc : 0 ≤ chkS (chkW 1 (xs.take i)) (bodW ws) ∧ chkS (chkW 1 (xs.take i)) (bodW ws) < 1000003 := hc
            obtain ⟨n, en, el⟩ := line_S (bodW ws) hc.1
            have hll := lineW_len okr hc.1 hc.2
            rw [el] at hll
            have hn35 : 35 ∉ TL.numL n := TL.numL_free (.inl (by decide))
            have bl := okr.len
            walk_at "rd"
            rw [el] at sT ⊢
            refine rd_rpart (by decide +kernel) (Nat.le_trans hll (by unfold sizeLine; decide)) fun p1 hp1 => ?_
            rw [show Str.ofString " #" = SX.S [32, 35] from rfl, rpart_line hn35]
            have sp1 := same_new (o := .tup [.str (SX.S (bodW ws).cps.toList), .str (SX.S [32, 35]), .str (SX.S (TL.numL n))]) hp1
            walk_at "rd"
            rw [show SX.S (bodW ws).cps.toList = bodW ws from rfl]
            refine rd_splitT (by decide +kernel) (show (bodW ws).length ≤ 10000000 by omega) okr.split fun p2 hp2 => ?_
            have sp2 := same_new (o := .lst ((ws).map V.str)) hp2
            walk_at "rd"
            refine use_recV upd_same okr.ne okr.wlen fun v' H3 s3 hv1 _ => ?_
            have hv' := hv1 okr.re
            obtain ⟨va, rfl, _⟩ := hv1 okr.re
            have s13 := sT.trans (sp1.trans (sp2.trans s3))
            walk_at "rd"
            refine if_noD (fun z => V.noConfusion z) ?_
            walk_at "rd"
            refine use_chkB hcl ?_
            walk_at "rd"
            dsimp only
            refine ⟨_, rfl, log_le (by omega), ?_⟩
            walk_at "rd"
            refine if_noN (by rw [en, str_num]) ?_
            have eR3 := s13 _ _ eR2
            have eL3 := s13 _ _ eL2
            walk_at "rd"
            refine rd_appM eR3 (by omega) ?_
            walk_at "rd"
            have lk : LK H2 (upd H3 R (.lst (refs ++ [.ref va]))) := (LK.of s13).trans (LK.at eR3)
            have tk : xs.take (i + 1) = xs.take i ++ [ws] := by rw [List.take_add_one, hr]; rfl
            refine ⟨refs ++ [.ref va], some (.int (i : Nat)), some (.str (SX.S ((bodW ws).cps.toList ++ [32, 35] ++ TL.numL n))), some (.str (bodW ws)), some (.str (SX.S [32, 35])), some (.str (SX.S (TL.numL n))), some (.ref va), ?_, hil, upd_same, ?_, ?_, fun b o e => ?_⟩
            · rw [chkW_take 1 hr]
              rfl
            · rw [tk]
              exact All2.app (RsSh.lk lk hRs) (RecSh.lk_ (LK.at eR3) hv')
            · rw [upd_ne nRL.symm]
              exact eL3
            · rw [upd_ne (ne_of_none e hRn)]
              exact s13 _ _ (sm _ _ e)
          · obtain rfl : i = xs.length := by omega
            rw [List.take_length] at hRs
            rcases hrest with rfl | ⟨bad, tl, rfl, hbl, hbad⟩
            · rw [List.append_nil, List.getElem?_eq_none_iff.mpr (by rw [List.length_map, linesW_length]; exact Nat.le_refl _)] at hv
              cases hv
            · obtain rfl : v = .str bad := by
                rw [List.getElem?_map, List.getElem?_append_right (by rw [linesW_length]; exact Nat.le_refl _), linesW_length, Nat.sub_self] at hv
                exact (Option.some.inj hv).symm
              obtain ⟨b1, b2, b3, eb⟩ : ∃ b1 b2 b3, rpart bad (SX.S [32, 35]) = (b1, b2, b3) := ⟨_, _, _, rfl⟩
              rw [eb] at hbad
              have hbad : recB (wordsL b1) = false ∨ b3 ≠ ((toString (chkS (chkW 1 xs) b1) : String) : Str) := hbad
              have hb1 := rpart_len eb
              rw [List.take_length] at hcl ⊢
              walk_at "rd"
              refine rd_rpart (by decide +kernel) (Nat.le_trans hbl (by unfold sizeLine; decide)) fun p1 hp1 => ?_
              rw [show Str.ofString " #" = SX.S [32, 35] from rfl, eb]
              have sp1 := same_new (o := .tup [.str b1, .str b2, .str b3]) hp1
              walk_at "rd"
              refine rd_splitT (ys := wordsL b1) (by decide +kernel) (Nat.le_trans hb1 hbl) rfl fun p2 hp2 => ?_
              have sp2 := same_new (o := .lst ((wordsL b1).map V.str)) hp2
              walk_at "rd"
              refine use_recV upd_same (wordsL_ne b1) (fun w hw => Nat.le_trans (wordsL_len b1 w hw) (by omega)) fun v' H3 s3 hv1 hv2 => ?_
              have s13 := sT.trans (sp1.trans (sp2.trans s3))
              have sA := sm.trans s13
              cases hB : recB (wordsL b1) with
              | false =>
                obtain rfl := hv2 hB
                walk_at "rd"
                refine if_yesD rfl ?_
                walk_at "rd"
                rename_i p hp
                have sp := same_new (o := .tup [.ref R, .int ((xs.length : Nat) + 1)]) hp
                exact q p R refs _ (sA.trans sp) (sA.free hp) hRn upd_same (sp _ _ (s13 _ _ eR2)) (RsSh.same (s13.trans sp) hRs)
              | true =>
                obtain ⟨va, rfl, _⟩ := hv1 hB
                have hb3 := hbad.resolve_left (by rw [hB]; exact fun z => by cases z)
                have hc := chkL_le hcl b1.cps.toList
                have hc : 0 ≤ chkS (chkW 1 xs) b1 ∧ chkS (chkW 1 xs) b1 < 1000003 := hc
                walk_at "rd"
                refine if_noD (fun z => V.noConfusion z) ?_
                walk_at "rd"
                refine use_chkB hcl ?_
                walk_at "rd"
                dsimp only
                refine ⟨_, rfl, log_le (by omega), ?_⟩
                walk_at "rd"
                refine if_yesN (fun z => hb3 (V.str.inj z)) ?_
                walk_at "rd"
                rename_i p hp
                have sp := same_new (o := .tup [.ref R, .int ((xs.length : Nat) + 1)]) hp
                exact q p R refs _ (sA.trans sp) (sA.free hp) hRn upd_same (sp _ _ (s13 _ _ eR2)) (RsSh.same (s13.trans sp) hRs)
        · obtain ⟨refs, x4, x5, x6, x7, x8, x9, rfl, hi, eR2, hRs, eL2, sm⟩ := hI
          have hn : ((linesW 1 xs ++ rest).map V.str).length = xs.length + rest.length := by rw [List.length_map, List.length_append, linesW_length]
          rw [hn] at hi hRs
          obtain rfl : rest = [] := List.length_eq_zero_iff.mp (by omega)
          rw [List.length_nil, Nat.add_zero, List.take_length] at hRs
          walk_at "rd"
          rename_i p hp
          have sp := same_new (o := .tup [.ref R, .non]) hp
          exact q p R refs _ (sm.trans sp) (sm.free hp) hRn upd_same (sp _ _ eR2) (RsSh.same sp hRs)
    ) only [↓lt_eq]
theorem ok_recovered_records {f : Addr} {fd : FuncData} {f_valid_records : Addr} {fd_valid_records : FuncData} {C_ParseError : Addr}   (D : Dn K mg "recovered_records" s_recovered_records ["text"] f fd) (bi : Bi mg) (G_valid_records : FnOk P w K mg base (L2.CX P w) 8 f_valid_records fd_valid_records ["text"] (spValidY C_ParseError)) (D_valid_records : Dn K mg "valid_records" s_valid_records ["text"] f_valid_records fd_valid_records)     : FnOk P w K mg base (L2.CX P w) 9 f fd ["text"] (spRecovY C_ParseError) := by
  refine lt_out ?_
  simp (disch := with_unfolding_all
    refine D.F.okX sc_recovered_records (fun vs H Q E h => ?_) (fun cdv A outer s H vs Q E hr h => ?_)
    · rcases h with ⟨v, rfl, _⟩ | ⟨x, xs, rest, rfl, _⟩ <;> rfl
    · rcases h with ⟨v, rfl, hN, he⟩ | ⟨x, xs, rest, rfl, hX, hl, q⟩
      · refine ⟨_, (pss_one (ps_ret (pe_ix ix_tup (pe_call G_valid_records (hr.mono (by first | decide | exact Nat.le_refl _)) (by rfl) D_valid_records.g D_valid_records.F.kp D_valid_records.b .nil (passes_call (takes_of rfl rfl rfl rfl) (fun _ _ _ _ h => h)) (pa_cons (pv 0) pa_nil)) pe_int (fun _ _ => rfl)))), ?_⟩
        refine rd_start (σ := [some v]) rfl ?_
        walk_at "rd"
        exact use_validN hN he
      · refine ⟨_, (pss_one (ps_ret (pe_ix ix_tup (pe_call G_valid_records (hr.mono (by first | decide | exact Nat.le_refl _)) (by rfl) D_valid_records.g D_valid_records.F.kp D_valid_records.b .nil (passes_call (takes_of rfl rfl rfl rfl) (fun _ _ _ _ h => h)) (pa_cons (pv 0) pa_nil)) pe_int (fun _ _ => rfl)))), ?_⟩
        refine rd_start (σ := [some (.str x)]) rfl ?_
        walk_at "rd"
        refine use_validY hX hl fun p D refs H1 s1 hp hD ep eD hR => ?_
        walk_at "rd"
        exact q D refs H1 s1 hD eD hR
    ) only [↓lt_eq]
theorem ok_read_numbers_0 {f : Addr} {fd : FuncData} {f_check_within : Addr} {fd_check_within : FuncData} {f_check_coding : Addr} {fd_check_coding : FuncData} {f_parameter : Addr} {fd_parameter : FuncData} {f_read_code : Addr} {fd_read_code : FuncData} {f_number_with : Addr} {fd_number_with : FuncData} {f_table_behind : Addr} {fd_table_behind : FuncData}    (D : Dn K mg "read_numbers" s_read_numbers ["bits", "length", "coarse", "tables"] f fd) (bi : Bi mg) (G_check_within : FnOk P w K mg base CX0 3 f_check_within fd_check_within ["value", "low", "high"] spCkW) (D_check_within : Dn K mg "check_within" s_check_within ["value", "low", "high"] f_check_within fd_check_within) (G_check_coding : FnOk P w K mg base CX0 5 f_check_coding fd_check_coding ["length", "coarse", "tables"] (spCoding K)) (D_check_coding : Dn K mg "check_coding" s_check_coding ["length", "coarse", "tables"] f_check_coding fd_check_coding) (G_parameter : FnOk P w K mg base CX0 4 f_parameter fd_parameter ["table"] (spParG K)) (D_parameter : Dn K mg "parameter" s_parameter ["table"] f_parameter fd_parameter) (G_read_code : FnOk P w K mg base CX0 1 f_read_code fd_read_code ["bits", "place", "k"] spRdC) (D_read_code : Dn K mg "read_code" s_read_code ["bits", "place", "k"] f_read_code fd_read_code) (G_number_with : FnOk P w K mg base CX0 1 f_number_with fd_number_with ["code"] spNumW) (D_number_with : Dn K mg "number_with" s_number_with ["code"] f_number_with fd_number_with) (G_table_behind : FnOk P w K mg base CX0 1 f_table_behind fd_table_behind ["table", "code"] (spBehind K)) (D_table_behind : Dn K mg "table_behind" s_table_behind ["table", "code"] f_table_behind fd_table_behind)    (g_BLOCK_LIMIT : ∃ t, mg "BLOCK_LIMIT" = some (.int 64 t)) : FnOk P w K mg base CX0 6 f fd ["bits", "length", "coarse", "tables"] (spRd0 K) := by
  refine lt_out ?_
  simp (disch := with_unfolding_all
    refine D.F.ok sc_read_numbers (fun vs H Q E h => ?_) (fun cdv A outer s H vs Q E hr h => ?_)
    · obtain ⟨b, T, rfl, _⟩ := h
      rfl
    · obtain ⟨b, T, rfl, hT, o1, o2, q⟩ := h
      obtain ⟨t64, g_BLOCK_LIMIT⟩ := g_BLOCK_LIMIT
      refine ⟨_, (pss_cons (ps_expr (pe_call G_check_within (hr.mono (by first | decide | exact Nat.le_refl _)) (by rfl) D_check_within.g D_check_within.F.kp D_check_within.b .nil pass0 (pa_cons (pv 1) (pa_cons pe_int (pa_cons (pe_glob (v := .int 64) (by rfl) g_BLOCK_LIMIT ⟨_, rfl⟩) pa_nil)))))
   (pss_cons (ps_expr (pe_call G_check_coding (hr.mono (by first | decide | exact Nat.le_refl _)) (by rfl) D_check_coding.g D_check_coding.F.kp D_check_coding.b .nil pass0 (pa_cons (pv 1) (pa_cons (pv 2) (pa_cons (pv 3) pa_nil)))))
   (pss_cons (ps_if (PW.pt (pw_or (pt_not (pt_val (pe_callB call_isi (by rfl) bi.isinstance_ (by decide +kernel) (pa_cons (pv 0) (pa_cons (pe_bltn (v := .ty "str") (by rfl) bi.str_ (by decide +kernel) rfl) pa_nil))))) (pw_or1 (pt_cmpR op_ne (pe_bm PySem.F.plainAttrs_str PySem.F.slot_str_strip PySem.F.type_str_strip mt_stripK (pv 0) (pa_cons pe_str pa_nil)) pe_str (nomark _)))))
   (pss_one (ps_ret pe_non))
   pss_nil)
   (pss_cons (ps_set (i := 4) sc_read_numbers.nd rfl (Or.inl rfl) (pe_callTy cList (by rfl) bi.list_ (by decide +kernel) (pa_cons (pv 3) pa_nil)))
   (pss_cons (ps_set (i := 5) sc_read_numbers.nd rfl (Or.inl rfl) (pe_lst pa_nil))
   (pss_cons (ps_set (i := 6) sc_read_numbers.nd rfl (Or.inl rfl) pe_int)
   (pss_cons (ps_for PassesOwn.never rfl (pi_range1 (by rfl) bi.range_ (pa_cons (pv 1) pa_nil)) (pg_name (i := 7) sc_read_numbers.nd rfl (Or.inl rfl))
   (pss_cons (ps_set (i := 8) sc_read_numbers.nd rfl (Or.inl rfl) (pe_ifExp (pt_cmpR op_lt (pv 7) (pv 2) (nomark _)) pe_int pe_int))
   (pss_cons (ps_set (i := 9) sc_read_numbers.nd rfl (Or.inl rfl) (pe_call G_read_code (hr.mono (by first | decide | exact Nat.le_refl _)) (by rfl) D_read_code.g D_read_code.F.kp D_read_code.b .nil pass0 (pa_cons (pv 0) (pa_cons (pv 6) (pa_cons (pe_call G_parameter (hr.mono (by first | decide | exact Nat.le_refl _)) (by rfl) D_parameter.g D_parameter.F.kp D_parameter.b .nil pass0 (pa_cons (pe_ix ix_list (pv 4) (pv 8) (fun _ _ => rfl)) pa_nil)) pa_nil)))))
   (pss_cons (ps_if (pt_cmpR cIsN (pv 9) pe_non (nomark _))
   (pss_one (ps_ret pe_non))
   pss_nil)
   (pss_cons (ps_asg (pv 9) (pg_tup rfl (pgs_cons (pg_name (i := 10) sc_read_numbers.nd rfl (Or.inl rfl)) (pgs_cons (pg_name (i := 6) sc_read_numbers.nd rfl (Or.inl rfl)) pgs_nil))))
   (pss_cons (ps_expr (pe_bm PySem.F.plainAttrs_list PySem.F.slot_list_append PySem.F.type_list_append mt_append (pv 5) (pa_cons (pe_call G_number_with (hr.mono (by first | decide | exact Nat.le_refl _)) (by rfl) D_number_with.g D_number_with.F.kp D_number_with.b .nil pass0 (pa_cons (pv 10) pa_nil)) pa_nil)))
   (pss_one (ps_asg (pe_call G_table_behind (hr.mono (by first | decide | exact Nat.le_refl _)) (by rfl) D_table_behind.g D_table_behind.F.kp D_table_behind.b .nil pass0 (pa_cons (pe_ix ix_list (pv 4) (pv 8) (fun _ _ => rfl)) (pa_cons (pv 10) pa_nil))) (pg_sub (pv 4) (pv 8) set_list)))))))))
   (pss_cons (ps_if (pt_cmpR op_ne (pv 6) (pe_callB cLen (by rfl) bi.len_ (by decide +kernel) (pa_cons (pv 0) pa_nil)) (nomark _))
   (pss_one (ps_ret pe_non))
   pss_nil)
   (pss_one (ps_ret (pe_tup (pa_cons (pv 5) (pa_cons (pe_callTy cTuple (by rfl) bi.tuple_ (by decide +kernel) (pa_cons (pv 4) pa_nil)) pa_nil))))))))))))), ?_⟩
      refine rd_start (σ := [some (.str (SX.S [])), some (.int 1), some (.int 1), some (.ref b), none, none, none, none, none, none, none]) rfl ?_
      walk_at "rd"
      refine use_coding (n := 1) (first := 1) (Nat.le_refl _) hT o1 o2 ?_
      obtain ⟨r0, r1, h0, h1, h2⟩ := hT
      walk_at "rd"
      refine ⟨SX.S [], _, rfl, rfl, by rw [SX.S_len]; exact Nat.zero_le _, ?_⟩
      rw [show Txt.stripChars (SX.S []) (Str.ofString "01") = SX.S [] from strip_all (s := [48, 49]) (fun c h => absurd h List.not_mem_nil)]
      walk_at "rd"
      refine if_noN (congrArg V.str e_empty.symm) ?_
      walk_at "rd"
      refine rd_listQ h0.1 fun p hp => ?_
      walk_at "rd"
      rename_i w hw
      have hs2 : Same H (upd (upd H p (.lst [.ref r0, .ref r1])) w (.lst [])) := (same_new hp).trans (same_new hw)
      refine for_range (lo := 0) (n := 1) (fun i σ H' => i = 0 ∧ σ = [some (.str (SX.S [])), some (.int 1), some (.int 1), some (.ref b), some (.ref p), some (.ref w), some (.int 0), none, none, none, none] ∧ H' = upd (upd H p (.lst [.ref r0, .ref r1])) w (.lst [])) ⟨rfl, rfl, rfl⟩ (fun i σ H' hi hI => ?_) (fun σ H' hI => ?_)
      · obtain ⟨rfl, rfl, rfl⟩ := hI
        have h3 : (upd (upd H p (.lst [.ref r0, .ref r1])) w (.lst [])) p = some (.lst [.ref r0, .ref r1]) := look_new hw upd_same
        walk_at "rd"
        refine if_yesD (by decide) ?_
        walk_at "rd"
        refine use_parG (h1.lk (.of hs2)) o1 ?_
        have hpp := par_leG o1 (by decide)
        have hrd : rdC [] 0 (par T.1.1 T.1.2) = none := by unfold rdC; rfl
        generalize par T.1.1 T.1.2 = k at hpp hrd ⊢
        walk_at "rd"
        refine use_rdCn (k := k) (by omega) hrd ?_
        walk_at "rd"
        refine if_yesD rfl ?_
        walk_at "rd"
        exact q _ hs2
      · exact absurd hI.1 (by decide)
    ) only [↓lt_eq]
theorem ok_read_frame_0 {f : Addr} {fd : FuncData} {f_read_numbers : Addr} {fd_read_numbers : FuncData} {f_coarse_count : Addr} {fd_coarse_count : FuncData} {f_mark_of : Addr} {fd_mark_of : FuncData}    (D : Dn K mg "read_frame" s_read_frame ["record", "tables"] f fd) (bi : Bi mg) (G_read_numbers : FnOk P w K mg base CX0 6 f_read_numbers fd_read_numbers ["bits", "length", "coarse", "tables"] (spRdM K)) (D_read_numbers : Dn K mg "read_numbers" s_read_numbers ["bits", "length", "coarse", "tables"] f_read_numbers fd_read_numbers) (G_coarse_count : FnOk P w K mg base CX0 4 f_coarse_count fd_coarse_count ["length", "levels"] spCoarse) (D_coarse_count : Dn K mg "coarse_count" s_coarse_count ["length", "levels"] f_coarse_count fd_coarse_count) (G_mark_of : FnOk P w K mg base CX0 4 f_mark_of fd_mark_of ["numbers"] spMark) (D_mark_of : Dn K mg "mark_of" s_mark_of ["numbers"] f_mark_of fd_mark_of) (G_read_numbers_0 : FnOk P w K mg base CX0 6 f_read_numbers fd_read_numbers ["bits", "length", "coarse", "tables"] (spRd0 K))    : FnOk P w K mg base CX0 7 f fd ["record", "tables"] (spRf0 K) := by
  refine lt_out ?_
  simp (disch := with_unfolding_all
    refine D.F.ok sc_read_frame (fun vs H Q E h => ?_) (fun cdv A outer s H vs Q E hr h => ?_)
    · obtain ⟨a, j, b, T, rfl, _⟩ := h
      rfl
    · obtain ⟨a, j, b, T, rfl, h, hT, o1, o2, q⟩ := h
      refine ⟨_, (pss_cons (ps_asg (pe_slice sl_tup (pv 0) (po_some pe_int) po_none) (pg_tup rfl (pgs_cons (pg_name (i := 2) sc_read_frame.nd rfl (Or.inl rfl)) (pgs_cons (pg_name (i := 3) sc_read_frame.nd rfl (Or.inl rfl)) (pgs_cons (pg_name (i := 4) sc_read_frame.nd rfl (Or.inl rfl)) (pgs_cons (pg_name (i := 5) sc_read_frame.nd rfl (Or.inl rfl)) (pgs_cons (pg_name (i := 6) sc_read_frame.nd rfl (Or.inl rfl)) (pgs_cons (pg_name (i := 7) sc_read_frame.nd rfl (Or.inl rfl)) pgs_nil))))))))
   (pss_cons (ps_set (i := 8) sc_read_frame.nd rfl (Or.inl rfl) (pe_call G_read_numbers_0 (hr.mono (by first | decide | exact Nat.le_refl _)) (by rfl) D_read_numbers.g D_read_numbers.F.kp D_read_numbers.b .nil pass0 (pa_cons (pv 7) (pa_cons (pv 2) (pa_cons (pe_call G_coarse_count (hr.mono (by first | decide | exact Nat.le_refl _)) (by rfl) D_coarse_count.g D_coarse_count.F.kp D_coarse_count.b .nil pass0 (pa_cons (pv 2) (pa_cons (pv 4) pa_nil))) (pa_cons (pv 1) pa_nil))))))
   (pss_cons (ps_if (PW.pt (pw_or (pt_cmpR cIsN (pv 8) pe_non (nomark _)) (pw_or1 (pt_cmpR op_ne (pe_call G_mark_of (hr.mono (by first | decide | exact Nat.le_refl _)) (by rfl) D_mark_of.g D_mark_of.F.kp D_mark_of.b .nil pass0 (pa_cons (pe_ix ix_tup (pv 8) pe_int (fun _ _ => rfl)) pa_nil)) (pv 6) (nomark _)))))
   (pss_one (ps_ret pe_non))
   pss_nil)
   (pss_one (ps_ret (pv 8)))))), ?_⟩
      refine rd_start (σ := [some (.ref a), some (.ref b), none, none, none, none, none, none, none]) rfl ?_
      walk_at "rd"
      refine rd_slTp (SqT.of h) (ys := [.int 1, .ref j, .int 0, .int 1, .int 31, .str (SX.S [])]) rfl (show ¬ (HT.sIx 7 0 (some 1) = 0 ∧ HT.sIx 7 7 none = 7) by decide) fun p1 hp1 => ?_
      have sp1 := same_new (o := .tup [.int 1, .ref j, .int 0, .int 1, .int 31, .str (SX.S [])]) hp1
      walk_at "rd"
      refine use_coarse (n := 1) (k := 0) (by decide) (by decide) (by decide) ?_
      walk_at "rd"
      refine use_rd0 rfl rfl rfl (hT.lk (.of sp1)) o1 o2 fun H2 s2 => ?_
      walk_at "rd"
      refine if_yesD rfl ?_
      walk_at "rd"
      exact q _ (sp1.trans s2)
    ) only [↓lt_eq]
theorem ok_read_frames {f : Addr} {fd : FuncData} {f_read_frame : Addr} {fd_read_frame : FuncData} {C_InvalidStream : Addr}   (D : Dn K mg "read_frames" s_read_frames ["records"] f fd) (bi : Bi mg) (G_read_frame : FnOk P w K mg base CX0 7 f_read_frame fd_read_frame ["record", "tables"] (spRfM K)) (D_read_frame : Dn K mg "read_frame" s_read_frame ["record", "tables"] f_read_frame fd_read_frame) (G_read_frame_0 : FnOk P w K mg base CX0 7 f_read_frame fd_read_frame ["record", "tables"] (spRf0 K)) (G_read_frame_O : FnOk P w K mg base CX0 7 f_read_frame fd_read_frame ["record", "tables"] (fun vs H Q E => spRfM K vs H Q E ∨ spRf0 K vs H Q E))  (T_InvalidStream : ErrK P w K mg base "InvalidStream" "index" C_InvalidStream) {a_START t0 t1 a_HARD : Addr} (g_START : mg "START" = some (.ref a_START)) (hSt : ∀ H, TupV K H a_START [.ref t0, .ref t1]) (hS0 : ∀ H, TupV K H t0 [.int 2, .int 1]) (hS1 : ∀ H, TupV K H t1 [.int 2, .int 1]) (g_HARD : mg "HARD" = some (.ref a_HARD)) (hHd : ∀ H, TupV K H a_HARD [.int 0, .int 0]) : FnOk P w K mg base (L2.CX P w) 8 f fd ["records"] (spFrsY K C_InvalidStream) := by
  refine lt_out ?_
  simp (disch := with_unfolding_all
    refine D.F.okX sc_read_frames (fun vs H Q E h => ?_) (fun cdv A outer s H vs Q E hr h => ?_)
    · obtain ⟨a, refs, tl, o, rs, T, w, rfl, _⟩ := h
      rfl
    · obtain ⟨a, refs, tl, o, rs, Te, w, rfl, hS, hlen, hR, hTl, hV, q, q1, q2⟩ := h
      have hrl := hR.len
      have hlen2 : refs.length ≤ 400 := by rw [List.length_append] at hlen; omega
      refine ⟨_, (pss_cons (ps_set (i := 1) sc_read_frames.nd rfl (Or.inl rfl) (pe_lst pa_nil))
   (pss_cons (ps_par3 (i := 2) (j := 3) (l := 4) rfl sc_read_frames.nd rfl rfl rfl (by decide) (by decide) (by decide) rfl rfl rfl (pa_cons (pe_glob (v := .ref a_START) (by rfl) g_START rfl) (pa_cons pe_int (pa_cons (pe_glob (v := .ref a_HARD) (by rfl) g_HARD rfl) pa_nil))) rfl)
   (pss_cons (ps_for (passes_of rfl) rfl (pi_enum (by rfl) bi.enumerate_ (pa_cons (pv 0) pa_nil)) (pg_tup rfl (pgs_cons (pg_name (i := 5) sc_read_frames.nd rfl (Or.inl rfl)) (pgs_cons (pg_name (i := 6) sc_read_frames.nd rfl (Or.inl rfl)) pgs_nil)))
   (pss_one (ps_if (pt_cmpR op_eq (pe_ix ix_tup (pv 6) pe_int (fun _ _ => rfl)) pe_str (nomark _))
   (pss_one (ps_set (i := 2) sc_read_frames.nd rfl (Or.inl rfl) (pe_ix ix_tup (pv 6) pe_int (fun _ _ => rfl))))
   (pss_cons (ps_asg (pe_slice sl_tup (pv 6) (po_some pe_int) (po_some pe_int)) (pg_tup rfl (pgs_cons (pg_name (i := 7) sc_read_frames.nd rfl (Or.inl rfl)) (pgs_cons (pg_name (i := 8) sc_read_frames.nd rfl (Or.inl rfl)) pgs_nil))))
   (pss_cons (ps_set (i := 9) sc_read_frames.nd rfl (Or.inl rfl) (pe_call G_read_frame_O (hr.mono (by first | decide | exact Nat.le_refl _)) (by rfl) D_read_frame.g D_read_frame.F.kp D_read_frame.b .nil pass0 (pa_cons (pv 6) (pa_cons (pv 2) pa_nil))))
   (pss_cons (ps_if (PW.pt (pw_or (pt_cmpR op_gt (pe_op op_add (pe_ix ix_tup (pv 4) pe_int (fun _ _ => rfl)) (pe_ix ix_tup (pv 8) pe_int (fun _ _ => rfl))) (pv 7) (nomark _)) (pw_or1 (pt_cmpR cIsN (pv 9) pe_non (nomark _)))))
   (pss_one (ps_raiseE T_InvalidStream rfl (hr.mono (by first | decide | exact Nat.le_refl _)) (takes_of rfl rfl rfl rfl) (pa_cons (pv 5) pa_nil)))
   pss_nil)
   (pss_cons (ps_asg (pv 9) (pg_tup rfl (pgs_cons (pg_name (i := 10) sc_read_frames.nd rfl (Or.inl rfl)) (pgs_cons (pg_name (i := 11) sc_read_frames.nd rfl (Or.inl rfl)) pgs_nil))))
   (pss_cons (ps_expr (pe_bm PySem.F.plainAttrs_list PySem.F.slot_list_append PySem.F.type_list_append mt_append (pv 1) (pa_cons (pe_tup (pa_cons (pe_tup (pa_cons (pv 5) (pa_cons (pv 3) (pa_cons (pv 7) (pa_cons (pv 4) (pa_cons (pv 8) pa_nil)))))) (pa_cons (pv 10) (pa_cons (pv 2) (pa_cons (pv 11) pa_nil))))) pa_nil)))
   (pss_one (ps_par3 (i := 2) (j := 3) (l := 4) rfl sc_read_frames.nd rfl rfl rfl (by decide) (by decide) (by decide) rfl rfl rfl (pa_cons (pv 11) (pa_cons (pe_op op_add (pv 3) (pv 7)) (pa_cons (pv 8) pa_nil))) rfl))))))))))
   (pss_cons (ps_if (pt_cmpR (op_neD hr.units) (pv 4) (pe_glob (v := .ref a_HARD) (by rfl) g_HARD rfl) (nomark _))
   (pss_one (ps_raiseE T_InvalidStream rfl (hr.mono (by first | decide | exact Nat.le_refl _)) (takes_of rfl rfl rfl rfl) (pa_cons (pe_ix ix_tup (pe_ix ix_tup (pe_ix ix_list (pv 1) (pe_un un_neg pe_int) (fun _ _ => rfl)) pe_int (fun _ _ => rfl)) pe_int (fun _ _ => rfl)) pa_nil)))
   pss_nil)
   (pss_one (ps_ret (pv 1))))))), ?_⟩
      refine rd_start (σ := [some (.ref a), none, none, none, none, none, none, none, none, none, none, none]) rfl ?_
      walk_at "rd"
      rename_i F hF
      refine rd_lpE (SqL.of (look_new hF hS)) ?_
      refine for_enum (xs := refs ++ tl) (fun i σ H' => (i ≤ refs.length ∧ ∃ fms dn t T pl jl lj x5 x6 x7 x8 x9 x10 x11, σ = [some (.ref a), some (.ref F), some (.ref t), some (.int (pl : Nat)), some (.ref jl), x5, x6, x7, x8, x9, x10, x11] ∧ FIW K F H H' rs Te w i fms dn t T pl jl lj) ∨ (i = refs.length + 1 ∧ o = some false ∧ ∃ fms dn t pl jl lj x5 x6 x7 x8 x9 x10 x11, σ = [some (.ref a), some (.ref F), some (.ref t), some (.int (pl : Nat)), some (.ref jl), x5, x6, x7, x8, x9, x10, x11] ∧ H' F = some (.lst fms) ∧ FmsAt K [F] H' fms dn ∧ frR 0 0 (0, 0) rs = dn ∧ JtV K H' jl lj ∧ lj.1 = w ∧ (lj.1 = 0 → lj.2 = 0) ∧ (lj.1 = 0 ∨ dn ≠ []) ∧ dn.length ≤ 400 ∧ Same H H')) (.inl ⟨Nat.zero_le _, [], [], a_START, T0, 0, a_HARD, (0, 0), none, none, none, none, none, none, none, rfl, ⟨upd_same, hF, .nil, rfl, hV, hHd _, fun _ => rfl, ⟨t0, t1, hSt _, hS0 _, hS1 _⟩, same_new hF, Nat.le_refl _, .inl rfl⟩⟩) (fun i σ H1 _ hI => ?_) (fun i v σ H1 W hv hI hW => ?_) (fun σ H1 hI => ?_)
      · rcases hI with ⟨_, fms, dn, t, T, pl, jl, lj, x5, x6, x7, x8, x9, x10, x11, rfl, hI⟩ | ⟨_, _, fms, dn, t, pl, jl, lj, x5, x6, x7, x8, x9, x10, x11, rfl, h1, h2, h3, h4, h5, h6, h7, h8, sm⟩
        · exact SqL.of (hI.sm _ _ hS)
        · exact SqL.of (sm _ _ hS)
      · replace hI := hI.resolve_right (fun ⟨hir, _⟩ => by
          have hil := (List.getElem?_eq_some_iff.mp hv).1
          have hlt := hTl.len
          rw [List.length_append] at hil
          omega)
        obtain ⟨hir, fms, dn, t, T, pl, jl, lj, x5, x6, x7, x8, x9, x10, x11, rfl, hI⟩ := hI
        by_cases hil : ¬ i < refs.length
        · obtain rfl : i = refs.length := by omega
          rw [List.getElem?_append_right (Nat.le_refl _), Nat.sub_self] at hv
          have hI := hI.same (same_new (o := .tup [.int (refs.length : Nat), v]) hW)
          have hTl := hTl.same hI.sm
          have vd := hI.vd
          have sp := hI.sp
          rw [hrl, List.drop_length] at vd sp
          have l0 : lj.1 = w := vd.2
          rw [show frR rs.length pl lj [] = [] from rfl, List.append_nil] at sp
          cases hTl with
          | nil => cases hv
          | @st b t' hb =>
            obtain rfl : v = .ref b := (Option.some.inj hv).symm
            walk_at "rd"
            refine if_yesD rfl ?_
            walk_at "rd"
            exact .inr ⟨rfl, rfl, fms, dn, t', pl, jl, lj, _, _, _, _, _, _, _, rfl, hI.eF, hI.fm, sp, hI.jt, l0, hI.j0, hI.nz, Nat.le_trans hI.le hlen2, hI.sm⟩
          | @fb b j hb hj =>
            obtain rfl : v = .ref b := (Option.some.inj hv).symm
            walk_at "rd"
            refine if_noD st_ne_fr ?_
            walk_at "rd"
            refine rd_slTp (SqT.of hb) (ys := [.int 1, .ref j]) rfl (show ¬ (HT.sIx 7 0 (some 1) = 0 ∧ HT.sIx 7 7 (some 3) = 7) by decide) fun p1 hp1 => ?_
            have sp1 := same_new (o := .tup [.int 1, .ref j]) hp1
            have hI := hI.same sp1
            have hb := sp1 _ _ hb
            have hj := sp1 _ _ hj
            walk_at "rd"
            obtain ⟨ok1, ok2⟩ := hV.endok ⟨⟨by decide, by decide, by decide, by decide⟩, ⟨by decide, by decide, by decide, by decide⟩⟩
            rw [← vd.1] at ok1 ok2
            refine .inr (use_rf0 hb hI.tb ok1 ok2 fun H2 s2 => ?_)
            have L1 := hI.jt.1
            have hI := hI.same s2
            have hj := s2 _ _ hj
            have L1 := hI.jt.1
            have qq := (q1 rfl).same hI.sm
            rw [← hrl] at qq
            walk_at "rd"
            refine rd_iteD (fun c => ?_) (fun c => ?_)
            · walk_at "rd"
              exact qq.now
            · walk_at "rd"
              refine if_yesD rfl ?_
              walk_at "rd"
              exact qq.now
        have hil := Decidable.not_not.mp hil
        have hv : refs[i]? = some v := by rw [List.getElem?_append_left hil] at hv; exact hv
        obtain ⟨r, rr, hv2, hd1, hd2, hmem⟩ := hR.drop_head hv
        have hI := hI.same (same_new (o := .tup [.int (i : Nat), v]) hW)
        have hv2 := hv2.lk (.of hI.sm)
        have hok := hV.ok r hmem
        cases r with
        | st T' =>
          obtain ⟨b, t', rfl, hb, hT'⟩ := hv2
          walk_at "rd"
          refine if_yesD rfl ?_
          walk_at "rd"
          exact .inl ⟨hil, fms, dn, t', T', pl, jl, lj, _, _, _, _, _, _, _, rfl, hI.st hd1 hd2 hT'⟩
        | fr d ns T' =>
          obtain ⟨b, j, rfl, hb, hj⟩ := hv2
          have vd := hI.vd
          rw [hd1] at vd
          obtain ⟨rfl, v2, v3, v4, v5, v6, v7⟩ := vd
          have hrc : RcAt K _ (.ref b) (.fr d ns T') := ⟨b, j, rfl, hb, hj⟩
          unfold FrAt at hb
          walk_at "rd"
          refine if_noD st_ne_fr ?_
          walk_at "rd"
          refine rd_slTp (SqT.of hb) (ys := [.int (d.1 : Nat), .ref j]) rfl (show ¬ (HT.sIx 7 0 (some 1) = 0 ∧ HT.sIx 7 7 (some 3) = 7) by decide) fun p1 hp1 => ?_
          have lk1 := LK.new (o := .tup [.int (d.1 : Nat), .ref j]) hp1
          have hI := hI.same (same_new (o := .tup [.int (d.1 : Nat), .ref j]) hp1)
          have hrc := hrc.lk lk1
          walk_at "rd"
          refine .inl (use_rfM0 hrc hok hI.tb fun p2 m2 q2 H2 hs2 hn2 hp2 hm2 hq2 => ?_)
          have hI := hI.same hs2
          have hj2 := (LK.of hs2) _ _ (lk1 _ _ hj fun _ z => nomatch z) fun _ z => nomatch z
          have L1 := hI.jt.1
          walk_at "rd"
          refine if_noD (by omega) ?_
          walk_at "rd"
          refine if_noD (fun z => V.noConfusion z) ?_
          have eF := hI.eF
          have hlf := hI.len
          have nmF : m2 ≠ F := ne_fms eF hm2 (by have := v2.1; omega) (fms_ref hI.fm)
          walk_at "rd"
          rename_i b5 hb5 w6 hw6
          have s5 := same_new (o := .tup [.int (i : Nat), .int (pl : Nat), .int (d.1 : Nat), .ref jl, .ref j]) hb5
          have s6 := same_new (o := .tup [.ref b5, .ref m2, .ref t, .ref q2]) hw6
          have hI := hI.same (s5.trans s6)
          refine rd_appG hI.eF (by omega) ?_
          walk_at "rd"
          have lk5 := LK.of (s5.trans s6)
          have fm : FmAt K [F] _ (.ref w6) (i, pl, d, lj, ns, T') := ⟨w6, b5, jl, j, m2, t, q2, rfl, upd_same, s6 _ _ upd_same, hI.jt, lk5 _ _ hj2 (fun _ z => nomatch z), fun z => nmF (List.mem_singleton.mp z), s6 _ _ (s5 _ _ hm2), hI.tb, hq2.lk lk5⟩
          have hI := hI.fr hd1 hd2 fm (lk5 _ _ hj2 fun _ z => nomatch z) (hq2.lk lk5)
          refine .inl ⟨hil, _, _, q2, _, pl + d.1, j, _, some (.int (i : Nat)), some (.ref b), some (.int (d.1 : Nat)), some (.ref j), some (.ref p2), some (.ref m2), some (.ref q2), ?_, hI⟩
          rw [show ((pl + d.1 : Nat) : Int) = (pl : Int) + (d.1 : Int) by omega]
          rfl
      · have hTl1 := hTl.len
        rw [List.length_append] at hI
        obtain ⟨fms, dn, t, pl, jl, lj, x5, x6, x7, x8, x9, x10, x11, rfl, ho, eF, hfm, sp, hjt, l0, j0, nz, hdl, sm⟩ : ∃ (fms : List V) (dn : List Fm) (t : Addr) (pl : Nat) (jl : Addr) (lj : Nat × Nat) (x5 x6 x7 x8 x9 x10 x11 : Option V), σ = [some (.ref a), some (.ref F), some (.ref t), some (.int (pl : Nat)), some (.ref jl), x5, x6, x7, x8, x9, x10, x11] ∧ o ≠ some true ∧ H1 F = some (.lst fms) ∧ FmsAt K [F] H1 fms dn ∧ frR 0 0 (0, 0) rs = dn ∧ JtV K H1 jl lj ∧ lj.1 = w ∧ (lj.1 = 0 → lj.2 = 0) ∧ (lj.1 = 0 ∨ dn ≠ []) ∧ dn.length ≤ 400 ∧ Same H H1 := by
          rcases hI with ⟨hir, fms, dn, t, T, pl, jl, lj, x5, x6, x7, x8, x9, x10, x11, rfl, hI⟩ | ⟨hir, ho, fms, dn, t, pl, jl, lj, x5, x6, x7, x8, x9, x10, x11, rfl, h1, h2, h3, h4, h5, h6, h7, h8, sm⟩
          · obtain rfl : tl = [] := List.length_eq_zero_iff.mp (by omega)
            have vd := hI.vd
            have sp := hI.sp
            rw [List.length_nil, Nat.add_zero, hrl, List.drop_length] at vd sp
            rw [show frR rs.length pl lj [] = [] from rfl, List.append_nil] at sp
            refine ⟨fms, dn, t, pl, jl, lj, x5, x6, x7, x8, x9, x10, x11, rfl, ?_, hI.eF, hI.fm, sp, hI.jt, vd.2, hI.j0, hI.nz, Nat.le_trans hI.le (by rw [List.length_nil]; omega), hI.sm⟩
            cases hTl
            exact fun z => by cases z
          · refine ⟨fms, dn, t, pl, jl, lj, x5, x6, x7, x8, x9, x10, x11, rfl, ?_, h1, h2, h3, h4, h5, h6, h7, h8, sm⟩
            rw [ho]
            exact fun z => by cases z
        walk_at "rd"
        by_cases w0 : w = 0
        · have l1 := j0 (l0.trans w0)
          refine rd_neT2 hjt.1 (hHd _).1 (by omega) (by omega) ?_
          walk_at "rd"
          exact q ho w0 F fms _ hF eF sm
        · refine rd_neT2n hjt.1 (hHd _).1 (by omega) ?_
          have hne : dn ≠ [] := nz.resolve_left (by omega)
          obtain ⟨ds, f, rfl⟩ : ∃ ds f, dn = ds ++ [f] := ⟨_, _, (List.dropLast_concat_getLast hne).symm⟩
          obtain ⟨vs, v, ev, hvs, hvf⟩ := fms_last hfm
          obtain ⟨fa, b, jl2, j2, m2, t2, q3, rfl, hfa, hfb, _⟩ := hvf
          rw [ev] at eF
          have hvl : vs.length + 1 ≤ 400 := by
            rw [List.length_append] at hdl
            have hdl : ds.length + 1 ≤ 400 := hdl
            omega
          have qq := q2 ho w0 f (by rw [sp, List.getLast?_append]; rfl)
          walk_at "rd"
          refine rd_raiseR (v := .int (f.1 : Nat)) (H1 := H1) (fun Q' hq => ?_) (fun d hd => (qq.same sm).now d hd)
          walk_at "rd"
          refine rd_ixL (SqL.of eF) (atI_last _ _) ?_
          walk_at "rd"
          exact hq
    ) only [↓lt_eq]
theorem ok_check_records {f : Addr} {fd : FuncData} {f_is_record : Addr} {fd_is_record : FuncData}    (D : Dn K mg "check_records" s_check_records ["records"] f fd) (bi : Bi mg) (G_is_record : FnOk P w K mg base CX0 6 f_is_record fd_is_record ["value"] (spIsRc K)) (D_is_record : Dn K mg "is_record" s_is_record ["value"] f_is_record fd_is_record) (G_is_record_A : FnOk P w K mg base CX0 6 f_is_record fd_is_record ["value"] spRec)    : FnOk P w K mg base CX0 7 f fd ["records"] spCkY := by
  refine lt_out ?_
  simp (disch := with_unfolding_all
    refine D.F.ok sc_check_records (fun vs H Q E h => ?_) (fun cdv A outer s H vs Q E hr h => ?_)
    · obtain ⟨a, refs, xs, rfl, _⟩ := h
      rfl
    · obtain ⟨a, refs, xs, rfl, hS, hR, ok, q⟩ := h
      refine ⟨_, (pss_cons (ps_if (pt_not (pt_val (pe_callB call_isiT (by rfl) bi.isinstance_ (by decide +kernel) (pa_cons (pv 0) (pa_cons (pe_tup (pa_cons (pe_bltn (v := .ty "list") (by rfl) bi.list_ (by decide +kernel) rfl) (pa_cons (pe_bltn (v := .ty "tuple") (by rfl) bi.tuple_ (by decide +kernel) rfl) pa_nil))) pa_nil)))))
   (pss_one ps_never)
   pss_nil)
   (pss_one (ps_for PassesOwn.never rfl (pi_enum (by rfl) bi.enumerate_ (pa_cons (pv 0) pa_nil)) (pg_tup rfl (pgs_cons (pg_name (i := 1) sc_check_records.nd rfl (Or.inl rfl)) (pgs_cons (pg_name (i := 2) sc_check_records.nd rfl (Or.inl rfl)) pgs_nil)))
   (pss_one (ps_if (pt_not (pt_val (pe_call G_is_record_A (hr.mono (by first | decide | exact Nat.le_refl _)) (by rfl) D_is_record.g D_is_record.F.kp D_is_record.b .nil pass0 (pa_cons (pv 2) pa_nil))))
   (pss_one ps_never)
   pss_nil))))), ?_⟩
      refine rd_start (σ := [some (.ref a), none, none]) rfl ?_
      walk_at "rd"
      rename_i t ht
      refine isiT_lst (look_new ht hS) upd_same ?_
      walk_at "rd"
      refine rd_lpE (SqL.of (look_new ht hS)) ?_
      refine for_enum (xs := refs) (fun i σ H' => ∃ t u, σ = [some (.ref a), t, u] ∧ Same H H') ⟨none, none, rfl, same_new ht⟩ (fun i σ H1 _ hI => ?_) (fun i v σ H1 T hv hI hT => ?_) (fun σ H1 hI => ?_)
      · obtain ⟨t, u, rfl, hs⟩ := hI
        exact SqL.of (hs _ _ hS)
      · obtain ⟨t, u, rfl, hs⟩ := hI
        obtain ⟨ws, rr, hv2, hdr, _⟩ := hR.get _ _ hv
        have hmem : ws ∈ xs := List.mem_of_mem_drop (i := i) (by rw [hdr]; exact List.mem_cons_self)
        have hs2 := hs.trans (same_new (o := .tup [.int (i : Int), v]) hT)
        walk_at "rd"
        refine use_rec ((hv2.same hs2).recR (ok ws hmem)) fun H2 hs3 => ?_
        walk_at "rd"
        exact ⟨_, _, rfl, hs2.trans hs3⟩
      · obtain ⟨t, u, rfl, hs⟩ := hI
        walk_at "rd"
        exact q _ hs
    ) only [↓lt_eq]
theorem ok_Stream___init__ {f : Addr} {fd : FuncData} {f_check_records : Addr} {fd_check_records : FuncData} {f_read_frames : Addr} {fd_read_frames : FuncData} {C_InvalidStream : Addr} {C_Stream : Addr}   (D : Mn K C_Stream "__init__" "Stream.__init__" s_Stream___init__ ["self", "records"] f fd) (bi : Bi mg) (G_check_records : FnOk P w K mg base CX0 7 f_check_records fd_check_records ["records"] spCkY) (D_check_records : Dn K mg "check_records" s_check_records ["records"] f_check_records fd_check_records) (G_read_frames : FnOk P w K mg base (L2.CX P w) 8 f_read_frames fd_read_frames ["records"] (spFrsY K C_InvalidStream)) (D_read_frames : Dn K mg "read_frames" s_read_frames ["records"] f_read_frames fd_read_frames)  (TC_Stream : StmC K mg C_Stream)   : FnOk P w K mg base (L2.CX P w) 9 f fd ["self", "records"] (spInitY K C_Stream C_InvalidStream) := by
  refine lt_out ?_
  simp (disch := with_unfolding_all
    refine D.F.okX sc_Stream___init__ (fun vs H Q E h => ?_) (fun cdv A outer s H vs Q E hr h => ?_)
    · obtain ⟨x, a, dx, refs, tl, o, xs, rs, Te, w, rfl, _⟩ := h
      rfl
    · obtain ⟨x, a, dx, refs, tl, o, xs, rs, Te, w, rfl, hx, hS, hl, hSh, okx, hR, hTl, hV, q, q1, q2⟩ := h
      refine ⟨_, (pss_cons (ps_expr (pe_call G_check_records (hr.mono (by first | decide | exact Nat.le_refl _)) (by rfl) D_check_records.g D_check_records.F.kp D_check_records.b .nil pass0 (pa_cons (pv 1) pa_nil)))
   (pss_cons (ps_fld (pv 0) (pe_callTy cList (by rfl) bi.list_ (by decide +kernel) (pa_cons (pv 1) pa_nil)) rfl)
   (pss_one (ps_fld (pv 0) (pe_call G_read_frames (hr.mono (by first | decide | exact Nat.le_refl _)) (by rfl) D_read_frames.g D_read_frames.F.kp D_read_frames.b .nil (passes_call (takes_of rfl rfl rfl rfl) (fun _ _ _ _ h => h)) (pa_cons (pe_fld (pv 0) rfl) pa_nil)) rfl)))), ?_⟩
      refine rd_start (σ := [some (.ref x), some (.ref a)]) rfl ?_
      walk_at "rd"
      refine use_ckY hS hSh okx fun H1 hs1 => ?_
      have hS1 := hs1 _ _ hS
      have hx1 := hs1 _ _ hx
      walk_at "rd"
      refine rd_setF ?_
      walk_at "rd"
      rename_i L hL
      have nxL : x ≠ L := ne_of_none hx1 hL
      refine ⟨x, C_Stream, dx, _, rfl, look_new hL hx1, TC_Stream.cl, TC_Stream.nh, by decide, ?_⟩
      walk_at "rd"
      refine rd_setF ?_
      walk_at "rd"
      have k1 : Kp x H (upd (upd H1 L (.lst (refs ++ tl))) x (.ins C_Stream dx (putF "held" (.ref L) []))) := fun b o nb e => by rw [upd_ne nb]; exact look_new hL (hs1 _ _ e)
      have eL1 : (upd (upd H1 L (.lst (refs ++ tl))) x (.ins C_Stream dx (putF "held" (.ref L) []))) L = some (.lst (refs ++ tl)) := by rw [upd_ne nxL.symm]; exact upd_same
      refine ⟨.ref x, rfl, x, C_Stream, dx, _, _, rfl, upd_same, TC_Stream.cl, TC_Stream.nh, held_ L, ?_⟩
      walk_at "rd"
      have hR1 := hR.lki (.ofK hx k1)
      have hT1 := hTl.lki (.ofK hx k1)
      refine use_frsY eL1 hl hR1 hT1 hV (fun o0 w0 F fms H2 hF eF hs2 => ?_) (fun o1 d H2 s2 nd ed => q1 o1 d H2 (k1.trans (Kp.of s2)) (nd_ nd k1 upd_same) ed) (fun o1 w0 f hf => fun d H2 s2 nd ed => q2 o1 w0 f hf d H2 (k1.trans (Kp.of s2)) (nd_ nd k1 upd_same) ed)
      have hx2 := hs2 _ _ upd_same
      have k2 := k1.trans (Kp.of hs2)
      have k3 : Kp x H2 (upd H2 x (.ins C_Stream dx (sf L F))) := fun b o nb e => by rw [upd_ne nb]; exact e
      refine ⟨x, C_Stream, dx, _, rfl, hx2, TC_Stream.cl, TC_Stream.nr, by show 1 < 1000; decide, ?_⟩
      walk_at "rd"
      exact q o0 w0 _ (k2.trans k3)
    ) only [↓lt_eq]
theorem ok_parse_stream {f : Addr} {fd : FuncData} {f_valid_records : Addr} {fd_valid_records : FuncData} {f_Stream___init__ : Addr} {fd_Stream___init__ : FuncData} {C_InvalidStream : Addr} {C_ParseError : Addr} {C_Stream : Addr}   (D : Dn K mg "parse_stream" s_parse_stream ["text"] f fd) (bi : Bi mg) (G_valid_records : FnOk P w K mg base (L2.CX P w) 8 f_valid_records fd_valid_records ["text"] (spValidY C_ParseError)) (D_valid_records : Dn K mg "valid_records" s_valid_records ["text"] f_valid_records fd_valid_records) (G_Stream___init__ : FnOk P w K mg base (L2.CX P w) 9 f_Stream___init__ fd_Stream___init__ ["self", "records"] (spInitY K C_Stream C_InvalidStream)) (D_Stream___init__ : Mn K C_Stream "__init__" "Stream.__init__" s_Stream___init__ ["self", "records"] f_Stream___init__ fd_Stream___init__)  (TC_Stream : StmC K mg C_Stream) (T_ParseError : ErrK P w K mg base "ParseError" "line" C_ParseError)  : FnOk P w K mg base (L2.CX P w) 11 f fd ["text"] (spParseY C_Stream C_ParseError C_InvalidStream) := by
  refine lt_out ?_
  simp (disch := with_unfolding_all
    refine D.F.okX sc_parse_stream (fun vs H Q E h => ?_) (fun cdv A outer s H vs Q E hr h => ?_)
    · obtain ⟨v, o, rfl, _⟩ := h
      rfl
    · obtain ⟨v, o, rfl, hP, q⟩ := h
      refine ⟨_, (pss_cons (ps_asg (pe_call G_valid_records (hr.mono (by first | decide | exact Nat.le_refl _)) (by rfl) D_valid_records.g D_valid_records.F.kp D_valid_records.b .nil (passes_call (takes_of rfl rfl rfl rfl) (fun _ _ _ _ h => h)) (pa_cons (pv 0) pa_nil)) (pg_tup rfl (pgs_cons (pg_name (i := 1) sc_parse_stream.nd rfl (Or.inl rfl)) (pgs_cons (pg_name (i := 2) sc_parse_stream.nd rfl (Or.inl rfl)) pgs_nil))))
   (pss_cons (ps_if (pt_cmpR op_notN (pv 2) pe_non (nomark _))
   (pss_one (ps_raiseE T_ParseError rfl (hr.mono (by first | decide | exact Nat.le_refl _)) (takes_of rfl rfl rfl rfl) (pa_cons (pv 2) pa_nil)))
   pss_nil)
   (pss_one (ps_ret (pe_make ⟨TC_Stream.mks, D_Stream___init__.m.at_, D_Stream___init__.m.fn, TC_Stream.kc⟩ G_Stream___init__ (hr.mono (by first | decide | exact Nat.le_refl _)) (by rfl) TC_Stream.g D_Stream___init__.b .nil (passes_call (takes_of rfl rfl rfl rfl) (fun _ _ _ _ h => h)) (pa_cons (pv 1) pa_nil)))))), ?_⟩
      refine rd_start (σ := [some v, none, none]) rfl ?_
      walk_at "rd"
      cases hP with
      | odd h => exact use_validN h q
      | @bad x xs rest h l n =>
        refine use_validY h l fun p D refs H1 s1 hp hD ep eD hR => ?_
        walk_at "rd"
        refine ⟨rfl, ?_⟩
        cases rest with
        | nil => exact absurd rfl n
        | cons b t =>
          refine rd_bl ?_
          refine if_yesN (fun z => V.noConfusion z) ?_
          walk_at "rd"
          exact (Err.same s1 q).now
      | @fb x rs T w h l hV =>
        refine use_validY h (by rw [List.length_append, List.length_map]; show rs.length + 1 ≤ 60; omega) fun p D refs H1 s1 hp hD ep eD hR => ?_
        walk_at "rd"
        refine ⟨rfl, ?_⟩
        refine rd_bl ?_
        refine if_noN rfl ?_
        walk_at "rd"
        refine rd_mk ?_
        walk_at "rd"
        intro y dx hy hdx hne
        have sx : Same H1 (upd (upd H1 dx (.own y)) y (.ins C_Stream dx [])) := same_mk hy hdx
        have kk : ∀ H4, Kp y (upd (upd H1 dx (.own y)) y (.ins C_Stream dx [])) H4 → Same H H4 := fun H4 hK4 b o e => hK4 b o (ne_of_none (s1 _ _ e) hy) (sx _ _ (s1 _ _ e))
        have hS := RsSh.same sx hR
        have lR := hR.len
        obtain ⟨r1, r2, rfl, h1, h2⟩ := All2.splitN hS
        rw [List.length_append (bs := [fbW]), List.length_map] at lR
        cases h2 with
        | @cons v2 _ r3 _ h2 h3 =>
          cases h3
          refine use_initY upd_same (sx _ _ eD) (by rw [lR]; show rs.length + 1 ≤ 400; omega) hS h.1 (RsSh.rcs hV.ok h1) h2.fb hV (fun z => absurd rfl z) (fun _ d H4 hK4 nd ed => ?_) (fun z => absurd rfl z)
          exact q d H4 (kk H4 hK4) ((s1.trans sx).free nd) ed
      | @st x rs T ws h l hV hw =>
        refine use_validY h (by rw [List.length_append, List.length_map]; show rs.length + 1 ≤ 60; omega) fun p D refs H1 s1 hp hD ep eD hR => ?_
        walk_at "rd"
        refine ⟨rfl, ?_⟩
        refine rd_bl ?_
        refine if_noN rfl ?_
        walk_at "rd"
        refine rd_mk ?_
        walk_at "rd"
        intro y dx hy hdx hne
        have sx : Same H1 (upd (upd H1 dx (.own y)) y (.ins C_Stream dx [])) := same_mk hy hdx
        have kk : ∀ H4, Kp y (upd (upd H1 dx (.own y)) y (.ins C_Stream dx [])) H4 → Same H H4 := fun H4 hK4 b o e => hK4 b o (ne_of_none (s1 _ _ e) hy) (sx _ _ (s1 _ _ e))
        have hS := RsSh.same sx hR
        have lR := hR.len
        obtain ⟨r1, r2, rfl, h1, h2⟩ := All2.splitN hS
        rw [List.length_append (bs := [ws]), List.length_map] at lR
        cases h2 with
        | @cons v2 _ r3 _ h2 h3 =>
          cases h3
          refine use_initY upd_same (sx _ _ eD) (by rw [lR]; show rs.length + 1 ≤ 400; omega) hS h.1 (RsSh.rcs hV.ok h1) (h2.st hw) hV (fun _ _ H4 hK4 => ⟨rfl, ?_⟩) (fun z => by cases z) (fun _ z => absurd rfl z)
          exact q y H4 (s1.free hy) (kk H4 hK4)
      | @last x rs T w f h l hV hw hf =>
        refine use_validY h (by rw [List.length_map]; omega) fun p D refs H1 s1 hp hD ep eD hR => ?_
        walk_at "rd"
        refine ⟨rfl, ?_⟩
        refine rd_bl ?_
        refine if_noN rfl ?_
        walk_at "rd"
        refine rd_mk ?_
        walk_at "rd"
        intro y dx hy hdx hne
        have sx : Same H1 (upd (upd H1 dx (.own y)) y (.ins C_Stream dx [])) := same_mk hy hdx
        have kk : ∀ H4, Kp y (upd (upd H1 dx (.own y)) y (.ins C_Stream dx [])) H4 → Same H H4 := fun H4 hK4 b o e => hK4 b o (ne_of_none (s1 _ _ e) hy) (sx _ _ (s1 _ _ e))
        have hS := RsSh.same sx hR
        have lR := hR.len
        rw [List.length_map] at lR
        have hS2 := hS
        rw [show refs = refs ++ [] from (List.append_nil refs).symm] at hS2
        refine use_initY (tl := []) upd_same (by rw [List.append_nil]; exact sx _ _ eD) (by rw [List.append_nil]; omega) hS2 h.1 (RsSh.rcs hV.ok hS) .nil hV (fun _ z => absurd z hw) (fun z => by cases z) (fun _ _ f2 hf2 d H4 hK4 nd ed => ?_)
        rw [hf] at hf2
        obtain rfl := Option.some.inj hf2
        exact q d H4 (kk H4 hK4) ((s1.trans sx).free nd) ed
    ) only [↓lt_eq]
theorem ok_check {f : Addr} {fd : FuncData}     (D : Dn K mg "_law_check" s_check ["_law_before", "_law_body_here"] f fd) (bi : Bi mg)      : FnOk P w K mg base CX0 1 f fd ["_law_before", "_law_body_here"] spChkL := by
  refine lt_out ?_
  simp (disch := with_unfolding_all
    refine D.F.ok sc_check (fun vs H Q E h => ?_) (fun cdv A outer s H vs Q E hr h => ?_)
    · obtain ⟨x, c, rfl, _⟩ := h
      rfl
    · obtain ⟨x, c, rfl, hc, q⟩ := h
      refine ⟨_, (pss_cons (ps_set (i := 2) sc_check.nd rfl (Or.inl rfl) (pv 0))
   (pss_cons (ps_for PassesOwn.never rfl (pi_str (pv 1)) (pg_name (i := 3) sc_check.nd rfl (Or.inl rfl))
   (pss_one (ps_set (i := 2) sc_check.nd rfl (Or.inl rfl) (pe_op op_mod (pe_callTy cInt (by rfl) bi.int_ (by decide +kernel) (pa_cons (pe_op op_add (pe_op op_add (pe_op op_mul (pv 2) pe_int) (pe_bm PySem.F.plainAttrs_str PySem.F.slot_str_find PySem.F.type_str_find mt_find pe_str (pa_cons (pv 3) pa_nil))) pe_int) pa_nil)) pe_int))))
   (pss_one (ps_ret (pv 2))))), ?_⟩
      refine rd_start (σ := [some (.int c), some (.str x), none, none]) rfl ?_
      walk_at "rd"
      refine rd_forX ?_
      walk_at "rd"
      refine ⟨x, rfl, ?_⟩
      refine for_signs (fun i σ H' => ∃ t, σ = [some (.int c), some (.str x), some (.int (chkL c (x.cps.toList.take i))), t] ∧ H' = H) ⟨none, rfl, rfl⟩ (fun i s σ H1 hs hI => ?_) (fun σ H1 hI => ?_)
      · obtain ⟨t, rfl, rfl⟩ := hI
        have hb := chkL_le hc (x.cps.toList.take i)
        walk_at "rd"
        refine ⟨_, _, rfl, rfl, ?_⟩
        walk_at "rd"
        exact ⟨_, by rw [chk_take c hs]; rfl, rfl⟩
      · obtain ⟨t, rfl, rfl⟩ := hI
        rw [chk_end]
        walk_at "rd"
        exact q
    ) only [↓lt_eq]
theorem ok_body {f : Addr} {fd : FuncData}     (D : Dn K mg "_law_body" s_body ["_law_record"] f fd) (bi : Bi mg)      : FnOk P w K mg base CX0 1 f fd ["_law_record"] (spBody K) := by
  refine lt_out ?_
  simp (disch := with_unfolding_all
    refine D.F.ok sc_body (fun vs H Q E h => ?_) (fun cdv A outer s H vs Q E hr h => ?_)
    · obtain ⟨v, r, rfl, _⟩ := h
      rfl
    · obtain ⟨v, r, rfl, hr1, ok, q⟩ := h
      refine ⟨_, (pss_cons (ps_if (pt_cmpR op_eq (pe_ix ix_tup (pv 0) pe_int (fun _ _ => rfl)) pe_str (nomark _))
   (pss_cons (ps_set (i := 1) sc_body.nd rfl (Or.inl rfl) (pe_lst (pa_cons (pe_ix ix_tup (pe_ix ix_tup (pe_ix ix_tup (pv 0) pe_int (fun _ _ => rfl)) pe_int (fun _ _ => rfl)) pe_int (fun _ _ => rfl)) (pa_cons (pe_ix ix_tup (pe_ix ix_tup (pe_ix ix_tup (pv 0) pe_int (fun _ _ => rfl)) pe_int (fun _ _ => rfl)) pe_int (fun _ _ => rfl)) (pa_cons (pe_ix ix_tup (pe_ix ix_tup (pe_ix ix_tup (pv 0) pe_int (fun _ _ => rfl)) pe_int (fun _ _ => rfl)) pe_int (fun _ _ => rfl)) (pa_cons (pe_ix ix_tup (pe_ix ix_tup (pe_ix ix_tup (pv 0) pe_int (fun _ _ => rfl)) pe_int (fun _ _ => rfl)) pe_int (fun _ _ => rfl)) pa_nil))))))
   (pss_one (ps_ret (pe_bm PySem.F.plainAttrs_str PySem.F.slot_str_join PySem.F.type_str_join mt_joinK pe_str (pa_cons (pe_op op_cat (pe_lst (pa_cons pe_str pa_nil)) (pe_lc (own := [("_law_one", 2)]) (g := gName 2) (tt := tYes) rfl sc_body.nd (pi_list (pv 1)) (blkOk_by (N := ["_law_record", "_law_some_here", "_law_one"]) (sc := defScope s_body) (by decide +kernel)) (fun _ _ _ _ _ => pg_name (i := 2) sc_body.nd rfl (Or.inl rfl)) (fun _ _ _ _ _ => pts_nil) (fun _ _ _ _ _ => (pe_callTy (show CallR _ (.type "str") _ from call_str_int) (by rfl) bi.str_ (by decide +kernel) (pa_cons (pv 2) pa_nil))))) pa_nil)))))
   pss_nil)
   (pss_cons (ps_set (i := 1) sc_body.nd rfl (Or.inl rfl) (pe_lst (pa_cons (pe_ix ix_tup (pv 0) pe_int (fun _ _ => rfl)) (pa_cons (pe_ix ix_tup (pe_ix ix_tup (pv 0) pe_int (fun _ _ => rfl)) pe_int (fun _ _ => rfl)) (pa_cons (pe_ix ix_tup (pe_ix ix_tup (pv 0) pe_int (fun _ _ => rfl)) pe_int (fun _ _ => rfl)) (pa_cons (pe_ix ix_tup (pv 0) pe_int (fun _ _ => rfl)) (pa_cons (pe_ix ix_tup (pv 0) pe_int (fun _ _ => rfl)) (pa_cons (pe_ix ix_tup (pv 0) pe_int (fun _ _ => rfl)) pa_nil))))))))
   (pss_one (ps_ret (pe_bm PySem.F.plainAttrs_str PySem.F.slot_str_join PySem.F.type_str_join mt_joinK pe_str (pa_cons (pe_op op_cat (pe_op op_cat (pe_lst (pa_cons pe_str pa_nil)) (pe_lc (own := [("_law_one", 2)]) (g := gName 2) (tt := tYes) rfl sc_body.nd (pi_list (pv 1)) (blkOk_by (N := ["_law_record", "_law_some_here", "_law_one"]) (sc := defScope s_body) (by decide +kernel)) (fun _ _ _ _ _ => pg_name (i := 2) sc_body.nd rfl (Or.inl rfl)) (fun _ _ _ _ _ => pts_nil) (fun _ _ _ _ _ => (pe_callTy (show CallR _ (.type "str") _ from call_str_int) (by rfl) bi.str_ (by decide +kernel) (pa_cons (pv 2) pa_nil))))) (pe_lst (pa_cons (pe_ix ix_tup (pv 0) pe_int (fun _ _ => rfl)) pa_nil))) pa_nil)))))), ?_⟩
      refine rd_start (σ := [some v, none, none]) rfl ?_
      cases r with
      | st T =>
        obtain ⟨b, t', rfl, hb, r0, r1, ht, h0, h1⟩ := hr1
        have ht' := ht.1
        have h0' := h0.1
        have h1' := h1.1
        walk_at "rd"
        refine if_yesD rfl ?_
        walk_at "rd"
        rename_i n1 hn1 l1 hl1
        have eN : (upd (upd H n1 (.lst ((numsR (.st T)).map V.int))) l1 (.lst [.str (Str.ofString "state")])) n1 = some (.lst ((numsR (.st T)).map V.int)) := look_new hl1 upd_same
        refine ⟨n1, rfl, ⟨_, SqL.of eN⟩, fun D hD => ?_⟩
        refine lc_strL (SqL.of eN) (Nat.le_of_ble_eq_true rfl) (fun _ => rfl) hD (fun z hz H3 Q' s3 hq => ?_) (fun H3 s3 eD => ?_)
        · walk_at "rd"
          exact ⟨z, rfl, log_le (nums_small ok z hz), hq⟩
        · have S1 := (same_new (o := .lst ((numsR (.st T)).map V.int)) hn1).trans (same_new (o := .lst [.str (Str.ofString "state")]) hl1)
          have S3 := S1.trans s3
          refine rd_catG (s3 _ _ upd_same) eD (Nat.le_of_ble_eq_true rfl) fun p2 hp2 => ?_
          walk_at "rd"
          refine rd_joinX (ys := wordsR (.st T)) (SqL.of upd_same) (Nat.le_trans (words_fit ok) (by decide)) ?_
          exact q _ (S3.trans (same_new hp2))
      | fr d ns T =>
        obtain ⟨b, j, rfl, hb, hj⟩ := hr1
        unfold FrAt at hb
        walk_at "rd"
        refine if_noD st_ne_fr ?_
        walk_at "rd"
        rename_i n1 hn1 l1 hl1
        have eN : (upd (upd H n1 (.lst ((numsR (.fr d ns T)).map V.int))) l1 (.lst [.str (Str.ofString "frame")])) n1 = some (.lst ((numsR (.fr d ns T)).map V.int)) := look_new hl1 upd_same
        refine ⟨n1, rfl, ⟨_, SqL.of eN⟩, fun D hD => ?_⟩
        refine lc_strL (SqL.of eN) (Nat.le_of_ble_eq_true rfl) (fun _ => rfl) hD (fun z hz H3 Q' s3 hq => ?_) (fun H3 s3 eD => ?_)
        · walk_at "rd"
          exact ⟨z, rfl, log_le (nums_small ok z hz), hq⟩
        · have S1 := (same_new (o := .lst ((numsR (.fr d ns T)).map V.int)) hn1).trans (same_new (o := .lst [.str (Str.ofString "frame")]) hl1)
          have S3 := S1.trans s3
          have hb3 := S3 _ _ hb
          refine rd_catG (s3 _ _ upd_same) eD (Nat.le_of_ble_eq_true rfl) fun p2 hp2 => ?_
          walk_at "rd"
          rename_i l2 hl2
          refine rd_catG (look_new hl2 upd_same) upd_same (Nat.le_of_ble_eq_true rfl) fun p3 hp3 => ?_
          walk_at "rd"
          have S4 := S3.trans ((same_new (o := .lst ([.str (Str.ofString "frame")] ++ (numsR (.fr d ns T)).map fun z => V.str (toString z))) hp2).trans (same_new (o := .lst [.str (SX.S (bitsF d ns T))]) hl2))
          refine rd_joinX (ys := wordsR (.fr d ns T)) (SqL.of upd_same) (Nat.le_trans (words_fit ok) (by decide)) ?_
          exact q _ (S4.trans (same_new hp3))
    ) only [↓lt_eq]
theorem ok_lines {f : Addr} {fd : FuncData} {f_body : Addr} {fd_body : FuncData} {f_check : Addr} {fd_check : FuncData}    (D : Dn K mg "_law_lines" s_lines ["_law_records"] f fd) (bi : Bi mg) (G_body : FnOk P w K mg base CX0 1 f_body fd_body ["_law_record"] (spBody K)) (D_body : Dn K mg "_law_body" s_body ["_law_record"] f_body fd_body) (G_check : FnOk P w K mg base CX0 1 f_check fd_check ["_law_before", "_law_body_here"] spChkL) (D_check : Dn K mg "_law_check" s_check ["_law_before", "_law_body_here"] f_check fd_check)     : FnOk P w K mg base CX0 2 f fd ["_law_records"] (spLines K) := by
  refine lt_out ?_
  simp (disch := with_unfolding_all
    refine D.F.ok sc_lines (fun vs H Q E h => ?_) (fun cdv A outer s H vs Q E hr h => ?_)
    · obtain ⟨a, refs, rs, rfl, _⟩ := h
      rfl
    · obtain ⟨a, refs, rs, rfl, hL, hR, hok, hl40, q⟩ := h
      refine ⟨_, (pss_cons (ps_par (i := 1) (j := 2) rfl sc_lines.nd rfl rfl (by decide) rfl rfl (pa_cons (pe_lst pa_nil) (pa_cons pe_int pa_nil)) rfl)
   (pss_cons (ps_for PassesOwn.never rfl (pi_list (pv 0)) (pg_name (i := 3) sc_lines.nd rfl (Or.inl rfl))
   (pss_cons (ps_set (i := 4) sc_lines.nd rfl (Or.inl rfl) (pe_call G_body (hr.mono (by first | decide | exact Nat.le_refl _)) (by rfl) D_body.g D_body.F.kp D_body.b .nil pass0 (pa_cons (pv 3) pa_nil)))
   (pss_cons (ps_set (i := 2) sc_lines.nd rfl (Or.inl rfl) (pe_call G_check (hr.mono (by first | decide | exact Nat.le_refl _)) (by rfl) D_check.g D_check.F.kp D_check.b .nil pass0 (pa_cons (pv 2) (pa_cons (pv 4) pa_nil))))
   (pss_one (ps_expr (pe_bm PySem.F.plainAttrs_list PySem.F.slot_list_append PySem.F.type_list_append mt_append (pv 1) (pa_cons (pe_op op_addT (pe_op op_addT (pv 4) pe_str) (pe_callTy (show CallR _ (.type "str") _ from call_str_int) (by rfl) bi.str_ (by decide +kernel) (pa_cons (pv 2) pa_nil))) pa_nil)))))))
   (pss_one (ps_ret (pv 1))))), ?_⟩
      refine rd_start (σ := [some (.ref a), none, none, none, none]) rfl ?_
      walk_at "rd"
      rename_i D hD
      have hln := hR.len
      refine rd_lpL (SqL.of (look_new hD hL)) ?_
      refine for_list (xs := refs) (fun i σ H' => ∃ x3 x4, σ = [some (.ref a), some (.ref D), some (.int (chkR 1 (rs.take i))), x3, x4] ∧ H' D = some (.lst ((linesR 1 (rs.take i)).map V.str)) ∧ Same H H') ⟨none, none, rfl, upd_same, same_new hD⟩ (fun i σ H1 _ hI => ?_) (fun i v σ H1 hv hI => ?_) (fun σ H1 hI => ?_)
      · obtain ⟨x3, x4, rfl, eD, hs⟩ := hI
        exact SqL.of (hs _ _ hL)
      · obtain ⟨x3, x4, rfl, eD, hs⟩ := hI
        obtain ⟨r, rr, hv2, hd1, hd2, hmem⟩ := hR.drop_head hv
        have hil := (List.getElem?_eq_some_iff.mp hv).1
        have hv2 := hv2.lk (.of hs)
        have ok := hok r hmem
        have ht := take_snocD hd1
        have hc := chkR_le (rs.take i) 1 (by decide) (by decide)
        have hc2 := chkL_le (c := chkR 1 (rs.take i)) hc (bodyR r).cps.toList
        have bl := body_len ok
        walk_at "rd"
        refine use_body hv2 ok fun H2 hs2 => ?_
        walk_at "rd"
        refine use_chkL hc ?_
        have eD2 := hs2 _ _ eD
        walk_at "rd"
        have bl' : (Txt.join (Str.ofString " ") (wordsR r)).length ≤ 80000 := bl
        have il := int_len (i := chkS (chkR 1 (rs.take i)) (Txt.join (Str.ofString " ") (wordsR r))) (by have := hc2.1; have := hc2.2; show (chkL (chkR 1 (rs.take i)) (bodyR r).cps.toList).natAbs < _; omega)
        have hz := sizeLine_eq
        refine rd_addX (by rw [hash_len]; omega) ?_
        walk_at "rd"
        refine ⟨_, rfl, log_le (by have := hc2.1; have := hc2.2; show (chkL (chkR 1 (rs.take i)) (bodyR r).cps.toList).natAbs < _; omega), ?_⟩
        refine rd_addX (by rw [Str.length_append, hash_len]; omega) ?_
        have l40 : ((linesR 1 (rs.take i)).map V.str).length ≤ 1000 := by rw [List.length_map, linesR_length, List.length_take]; omega
        walk_at "rd"
        refine rd_appG eD2 l40 ?_
        walk_at "rd"
        refine ⟨some v, some (.str (bodyR r)), ?_, ?_, ?_⟩
        · rw [ht, chkR_snoc]
          rfl
        · rw [ht, linesR_snoc, List.map_append]
          exact upd_same
        · exact same_putX (hs.trans hs2) hD
      · obtain ⟨x3, x4, rfl, eD, hs⟩ := hI
        rw [hln, List.take_length] at eD
        walk_at "rd"
        exact q D _ hD hs eD
    ) only [↓lt_eq]
theorem ok_bad {f : Addr} {fd : FuncData}     (D : Dn K mg "_law_bad" s_bad [] f fd) (bi : Bi mg)      : FnOk P w K mg base CX0 1 f fd [] spBadL := by
  refine lt_out ?_
  simp (disch := with_unfolding_all
    refine D.F.ok sc_bad (fun vs H Q E h => ?_) (fun cdv A outer s H vs Q E hr h => ?_)
    · obtain ⟨rfl, _⟩ := h
      rfl
    · obtain ⟨rfl, q⟩ := h
      refine ⟨_, (pss_cons (ps_set (i := 0) sc_bad.nd rfl (Or.inl rfl) (pe_lst (pa_cons pe_str (pa_cons pe_str (pa_cons pe_str (pa_cons pe_str (pa_cons pe_str (pa_cons pe_str (pa_cons pe_str pa_nil)))))))))
   (pss_cons (ps_set (i := 0) sc_bad.nd rfl (Or.inl rfl) (pe_op op_cat (pv 0) (pe_lst (pa_cons pe_str (pa_cons pe_str (pa_cons pe_str (pa_cons pe_str (pa_cons pe_str pa_nil))))))))
   (pss_cons (ps_set (i := 0) sc_bad.nd rfl (Or.inl rfl) (pe_op op_cat (pv 0) (pe_lst (pa_cons pe_str (pa_cons pe_str (pa_cons pe_str (pa_cons pe_str pa_nil)))))))
   (pss_cons (ps_set (i := 0) sc_bad.nd rfl (Or.inl rfl) (pe_op op_cat (pv 0) (pe_lst (pa_cons pe_str (pa_cons pe_str (pa_cons pe_str pa_nil))))))
   (pss_cons (ps_set (i := 0) sc_bad.nd rfl (Or.inl rfl) (pe_op op_cat (pv 0) (pe_lst (pa_cons pe_str (pa_cons pe_str (pa_cons pe_str pa_nil))))))
   (pss_cons (ps_set (i := 0) sc_bad.nd rfl (Or.inl rfl) (pe_op op_cat (pv 0) (pe_lst (pa_cons pe_str (pa_cons pe_str (pa_cons pe_str pa_nil))))))
   (pss_cons (ps_set (i := 0) sc_bad.nd rfl (Or.inl rfl) (pe_op op_cat (pv 0) (pe_lst (pa_cons pe_str (pa_cons pe_str (pa_cons pe_str pa_nil))))))
   (pss_cons (ps_set (i := 0) sc_bad.nd rfl (Or.inl rfl) (pe_op op_cat (pv 0) (pe_lst (pa_cons pe_str (pa_cons pe_str (pa_cons pe_str pa_nil))))))
   (pss_one (ps_ret (pe_op op_cat (pv 0) (pe_lst (pa_cons pe_str (pa_cons pe_str (pa_cons pe_str pa_nil))))))))))))))), ?_⟩
      refine rd_start (σ := [none]) rfl ?_
      walk_at "rd"
      refine rd_catG (by walk_at "hg") upd_same (by decide) fun p1 hp1 => ?_
      walk_at "rd"
      refine rd_catG (by walk_at "hg") upd_same (by decide) fun p2 hp2 => ?_
      walk_at "rd"
      refine rd_catG (by walk_at "hg") upd_same (by decide) fun p3 hp3 => ?_
      walk_at "rd"
      refine rd_catG (by walk_at "hg") upd_same (by decide) fun p4 hp4 => ?_
      walk_at "rd"
      refine rd_catG (by walk_at "hg") upd_same (by decide) fun p5 hp5 => ?_
      walk_at "rd"
      refine rd_catG (by walk_at "hg") upd_same (by decide) fun p6 hp6 => ?_
      walk_at "rd"
      refine rd_catG (by walk_at "hg") upd_same (by decide) fun p7 hp7 => ?_
      walk_at "rd"
      refine rd_catG (by walk_at "hg") upd_same (by decide) fun p8 hp8 => ?_
      walk_at "rd"
      exact q _ _ ((show Same H _ from by walk_at "sm").free hp8) (by walk_at "sm") upd_same
    ) only [↓lt_eq]
theorem ok_told {f : Addr} {fd : FuncData} {f_parse_stream : Addr} {fd_parse_stream : FuncData} {C_InvalidStream : Addr} {C_JoinError : Addr} {C_ParseError : Addr}   (D : Dn K mg "_law_told" s_told ["_law_value"] f fd) (bi : Bi mg) (G_parse_stream : FnOk P w K mg base (L2.CX P w) 11 f_parse_stream fd_parse_stream ["text"] (spParseY C_Stream C_ParseError C_InvalidStream)) (D_parse_stream : Dn K mg "parse_stream" s_parse_stream ["text"] f_parse_stream fd_parse_stream)   (T_ParseError : ErrK P w K mg base "ParseError" "line" C_ParseError) (T_InvalidStream : ErrK P w K mg base "InvalidStream" "index" C_InvalidStream) (m_InvalidStream_ParseError : PySem.W.exmOne K (.ref C_InvalidStream) (.ref C_ParseError) = some false) (g_JoinError : mg "JoinError" = some (.ref C_JoinError)) (q_ParseError_JoinError : PySem.W.kitOne K (.ref C_ParseError) (.ref C_JoinError) = some true) (q_ParseError_InvalidStream : PySem.W.kitOne K (.ref C_ParseError) (.ref C_InvalidStream) = some false) (q_InvalidStream_JoinError : PySem.W.kitOne K (.ref C_InvalidStream) (.ref C_JoinError) = some true) (q_InvalidStream_ParseError : PySem.W.kitOne K (.ref C_InvalidStream) (.ref C_ParseError) = some false) : FnOk P w K mg base CX0 12 f fd ["_law_value"] spTold86 := by
  refine lt_out ?_
  simp (disch := with_unfolding_all
    refine D.F.ok sc_told (fun vs H Q E h => ?_) (fun cdv A outer s H vs Q E hr h => ?_)
    · obtain ⟨v, o, rfl, _⟩ := h
      rfl
    · obtain ⟨v, o, rfl, hP, q⟩ := h
      have g_ParseError := T_ParseError.g
      have g_InvalidStream := T_InvalidStream.g
      refine ⟨_, (pss_cons (ps_try_named (Wo := fun _ _ _ _ => False) rfl rfl sc_told.nd L2.takes0 (fun W pn xe tk _ => (pss_one (ps_expr (pe_call G_parse_stream (hr.mono (by first | decide | exact Nat.le_refl _)) (by rfl) D_parse_stream.g D_parse_stream.F.kp D_parse_stream.b .nil (passes_callL (E := fun cls d H => ∀ σ : L2.St, σ.length = 2 → W cls d σ H) tk (fun _ _ _ _ hl h => h _ hl)) (pa_cons (pv 0) pa_nil)))))
   (NamedOk.cons (i := 1) rfl rfl ⟨rfl, by decide, Or.inl T_ParseError.g⟩ (fun a oe cls d pn hz hf => (pss_one (ps_ret (pe_lst (pa_cons pe_str (pa_cons (pe_xf T_ParseError.xf T_ParseError.noF hz hf (pv 1)) (pa_cons (pe_and (pe_callB (call_isX T_ParseError.ec hz hf) (by rfl) bi.isinstance_ (by decide +kernel) (pa_cons (pv 1) (pa_cons (pe_glob (v := .ref C_JoinError) (by rfl) g_JoinError rfl) pa_nil))) (pe_one (pe_not (pe_callB (call_isX T_ParseError.ec hz hf) (by rfl) bi.isinstance_ (by decide +kernel) (pa_cons (pv 1) (pa_cons (pe_glob (v := .ref C_InvalidStream) (by rfl) g_InvalidStream rfl) pa_nil)))))) pa_nil)))))))
   (NamedOk.cons (i := 1) rfl rfl ⟨rfl, by decide, Or.inl T_InvalidStream.g⟩ (fun a oe cls d pn hz hf => (pss_one (ps_ret (pe_lst (pa_cons pe_str (pa_cons (pe_xf T_InvalidStream.xf T_InvalidStream.noF hz hf (pv 1)) (pa_cons (pe_and (pe_callB (call_isX T_InvalidStream.ec hz hf) (by rfl) bi.isinstance_ (by decide +kernel) (pa_cons (pv 1) (pa_cons (pe_glob (v := .ref C_JoinError) (by rfl) g_JoinError rfl) pa_nil))) (pe_one (pe_not (pe_callB (call_isX T_InvalidStream.ec hz hf) (by rfl) bi.isinstance_ (by decide +kernel) (pa_cons (pv 1) (pa_cons (pe_glob (v := .ref C_ParseError) (by rfl) g_ParseError rfl) pa_nil)))))) pa_nil)))))))
   NamedOk.nil)))
   (pss_one (ps_ret pe_non))), ?_⟩
      refine rd_start (σ := [some v, none]) rfl ?_
      walk_at "rd"
      refine ⟨v, o, rfl, hP, ?_⟩
      cases o with
      | line u =>
        intro d H' s1 n ed σ hl
        obtain ⟨y0, y1, rfl⟩ := len2 hl
        refine ⟨true, T_ParseError.te, fun _ a ha => ?_, fun z => Bool.noConfusion z⟩
        walk_at "rd"
        refine ⟨rfl, rfl, d, _, _, rfl, ed, by simp [List.lookup]; rfl, ?_⟩
        walk_at "rd"
        refine rd_isX rfl rfl ed (fun _ e => e) q_ParseError_JoinError ?_
        walk_at "rd"
        refine rd_isX rfl rfl ed (fun _ e => e) q_ParseError_InvalidStream ?_
        walk_at "rd"
        rename_i p hp
        exact q _ _ (s1.trans (same_new hp)) ⟨p, rfl, upd_same⟩
      | recd i =>
        intro d H' s1 n ed σ hl
        obtain ⟨y0, y1, rfl⟩ := len2 hl
        refine ⟨false, m_InvalidStream_ParseError, fun z => Bool.noConfusion z, fun _ => ?_⟩
        refine ⟨true, T_InvalidStream.te, fun _ a ha => ?_, fun z => Bool.noConfusion z⟩
        walk_at "rd"
        refine ⟨rfl, rfl, d, _, _, rfl, ed, by simp [List.lookup]; rfl, ?_⟩
        walk_at "rd"
        refine rd_isX rfl rfl ed (fun _ e => e) q_InvalidStream_JoinError ?_
        walk_at "rd"
        refine rd_isX rfl rfl ed (fun _ e => e) q_InvalidStream_ParseError ?_
        walk_at "rd"
        rename_i p hp
        exact q _ _ (s1.trans (same_new hp)) ⟨p, rfl, upd_same⟩
      | ok =>
        intro x H' hx s1
        walk_at "rd"
        exact q _ _ s1 rfl
    ) only [↓lt_eq]
theorem ok_recovered {f : Addr} {fd : FuncData} {f_recovered_records : Addr} {fd_recovered_records : FuncData} {C_ParseError : Addr}   (D : Dn K mg "_law_recovered" s_recovered ["_law_value"] f fd) (bi : Bi mg) (G_recovered_records : FnOk P w K mg base (L2.CX P w) 9 f_recovered_records fd_recovered_records ["text"] (spRecovY C_ParseError)) (D_recovered_records : Dn K mg "recovered_records" s_recovered_records ["text"] f_recovered_records fd_recovered_records)   (T_ParseError : ErrK P w K mg base "ParseError" "line" C_ParseError)  : FnOk P w K mg base CX0 10 f fd ["_law_value"] spRecoL := by
  refine lt_out ?_
  simp (disch := with_unfolding_all
    refine D.F.ok sc_recovered (fun vs H Q E h => ?_) (fun cdv A outer s H vs Q E hr h => ?_)
    · rcases h with ⟨v, rfl, _⟩ | ⟨x, xs, rest, rfl, _⟩ <;> rfl
    · rcases h with ⟨v, rfl, hN, q⟩ | ⟨x, xs, rest, rfl, hX, hl, q⟩
      · refine ⟨_, (pss_one (ps_try_as (i := 1) (Wout := fun _ _ _ _ => False) rfl rfl sc_recovered.nd rfl rfl ⟨rfl, by decide, Or.inl T_ParseError.g⟩ L2.takes0 (fun W pn xe tk _ => (pss_one (ps_ret (pe_call G_recovered_records (hr.mono (by first | decide | exact Nat.le_refl _)) (by rfl) D_recovered_records.g D_recovered_records.F.kp D_recovered_records.b .nil (passes_callL (E := fun cls d H => ∀ σ : L2.St, σ.length = 2 → W cls d σ H) tk (fun _ _ _ _ hl h => h _ hl)) (pa_cons (pv 0) pa_nil))))) (fun a oe cls d pn hz hf => (pss_one (ps_ret (pe_lst (pa_cons pe_str (pa_cons (pe_xf T_ParseError.xf T_ParseError.noF hz hf (pv 1)) pa_nil)))))))), ?_⟩
        refine rd_start (σ := [some v, none]) rfl ?_
        walk_at "rd"
        refine use_recovN hN ?_
        intro d H' s1 n ed σ hl
        obtain ⟨y0, y1, rfl⟩ := len2 hl
        refine ⟨true, T_ParseError.te, fun _ a ha => ?_, fun z => Bool.noConfusion z⟩
        walk_at "rd"
        refine ⟨rfl, rfl, d, _, _, rfl, ed, by simp [List.lookup]; rfl, ?_⟩
        walk_at "rd"
        rename_i p hp
        exact q p _ (s1.trans (same_new hp)) upd_same
      · refine ⟨_, (pss_one (ps_try_as (i := 1) (Wout := fun _ _ _ _ => False) rfl rfl sc_recovered.nd rfl rfl ⟨rfl, by decide, Or.inl T_ParseError.g⟩ L2.takes0 (fun W pn xe tk _ => (pss_one (ps_ret (pe_call G_recovered_records (hr.mono (by first | decide | exact Nat.le_refl _)) (by rfl) D_recovered_records.g D_recovered_records.F.kp D_recovered_records.b .nil (passes_callL (E := fun cls d H => ∀ σ : L2.St, σ.length = 2 → W cls d σ H) tk (fun _ _ _ _ hl h => h _ hl)) (pa_cons (pv 0) pa_nil))))) (fun a oe cls d pn hz hf => (pss_one (ps_ret (pe_lst (pa_cons pe_str (pa_cons (pe_xf T_ParseError.xf T_ParseError.noF hz hf (pv 1)) pa_nil)))))))), ?_⟩
        refine rd_start (σ := [some (.str x), none]) rfl ?_
        walk_at "rd"
        refine use_recovY hX hl fun D refs H1 s1 hD eD hR => ?_
        walk_at "rd"
        exact q D refs H1 s1 hD eD hR
    ) only [↓lt_eq]
theorem ok_marked {f : Addr} {fd : FuncData} {f_take : Addr} {fd_take : FuncData} {f_check : Addr} {fd_check : FuncData}    (D : Dn K mg "_law_marked" s_marked ["_law_pool_here", "_law_body_here", "_law_check_here"] f fd) (bi : Bi mg) (G_take : FnOk P w K mg base CX0 1 f_take fd_take ["_law_pool_here", "_law_many"] spTake) (D_take : Dn K mg "_law_take" s_take ["_law_pool_here", "_law_many"] f_take fd_take) (G_check : FnOk P w K mg base CX0 1 f_check fd_check ["_law_before", "_law_body_here"] spChkL) (D_check : Dn K mg "_law_check" s_check ["_law_before", "_law_body_here"] f_check fd_check)     : FnOk P w K mg base CX0 2 f fd ["_law_pool_here", "_law_body_here", "_law_check_here"] spMarked := by
  refine lt_out ?_
  simp (disch := with_unfolding_all
    refine D.F.ok sc_marked (fun vs H Q E h => ?_) (fun cdv A outer s H vs Q E hr h => ?_)
    · obtain ⟨p, T, c, rfl, _⟩ := h
      rfl
    · obtain ⟨p, T, c, rfl, hP, ok, hc, q⟩ := h
      refine ⟨_, (pss_cons (ps_set (i := 3) sc_marked.nd rfl (Or.inl rfl) (pe_call G_check (hr.mono (by first | decide | exact Nat.le_refl _)) (by rfl) D_check.g D_check.F.kp D_check.b .nil pass0 (pa_cons (pv 2) (pa_cons (pv 1) pa_nil))))
   (pss_cons (ps_set (i := 4) sc_marked.nd rfl (Or.inl rfl) (pe_call G_take (hr.mono (by first | decide | exact Nat.le_refl _)) (by rfl) D_take.g D_take.F.kp D_take.b .nil pass0 (pa_cons (pv 0) (pa_cons pe_int pa_nil))))
   (pss_cons (ps_if (pt_cmpR op_eq (pv 4) pe_int (nomark _))
   (pss_one (ps_ret (pe_op op_addT (pe_op op_addT (pv 1) pe_str) (pe_callTy (show CallR _ (.type "str") _ from call_str_int) (by rfl) bi.str_ (by decide +kernel) (pa_cons (pe_op op_add (pe_op op_add (pv 3) pe_int) (pe_call G_take (hr.mono (by first | decide | exact Nat.le_refl _)) (by rfl) D_take.g D_take.F.kp D_take.b .nil pass0 (pa_cons (pv 0) (pa_cons pe_int pa_nil)))) pa_nil)))))
   pss_nil)
   (pss_cons (ps_if (pt_cmpR op_eq (pv 4) pe_int (nomark _))
   (pss_one (ps_ret (pe_op op_addT (pe_op op_addT (pv 1) pe_str) (pe_callTy (show CallR _ (.type "str") _ from call_str_int) (by rfl) bi.str_ (by decide +kernel) (pa_cons (pv 3) pa_nil)))))
   pss_nil)
   (pss_cons (ps_set (i := 5) sc_marked.nd rfl (Or.inl rfl) (pe_lst (pa_cons (pv 1) (pa_cons (pe_op op_addT (pv 1) pe_str) (pa_cons (pe_op op_addT (pe_op op_addT (pv 1) pe_str) (pe_callTy (show CallR _ (.type "str") _ from call_str_int) (by rfl) bi.str_ (by decide +kernel) (pa_cons (pv 3) pa_nil))) (pa_cons (pe_op op_addT (pe_op op_addT (pv 1) pe_str) (pe_callTy (show CallR _ (.type "str") _ from call_str_int) (by rfl) bi.str_ (by decide +kernel) (pa_cons (pv 3) pa_nil))) pa_nil))))))
   (pss_cons (ps_set (i := 5) sc_marked.nd rfl (Or.inl rfl) (pe_op op_cat (pv 5) (pe_lst (pa_cons (pe_op op_addT (pe_op op_addT (pe_op op_addT (pv 1) pe_str) (pe_callTy (show CallR _ (.type "str") _ from call_str_int) (by rfl) bi.str_ (by decide +kernel) (pa_cons (pv 3) pa_nil))) pe_str) (pa_cons (pe_op op_addT (pe_op op_addT (pv 1) pe_str) (pe_callTy (show CallR _ (.type "str") _ from call_str_int) (by rfl) bi.str_ (by decide +kernel) (pa_cons (pv 3) pa_nil))) (pa_cons (pe_op op_addT (pe_op op_addT (pv 1) pe_str) (pe_callTy (show CallR _ (.type "str") _ from call_str_int) (by rfl) bi.str_ (by decide +kernel) (pa_cons (pv 3) pa_nil))) pa_nil))))))
   (pss_one (ps_ret (pe_ix ix_list (pv 5) (pe_op op_sub (pv 4) pe_int) (fun _ _ => rfl)))))))))), ?_⟩
      have mb := fun t ht n en => mark_bad T ok hc (t := t) ht (n := n) en
      have bl := body_len ok
      have hcc := chkL_le hc (bodyR (.st T)).cps.toList
      have hcc : 0 ≤ chkS c (bodyR (.st T)) ∧ chkS c (bodyR (.st T)) < 1000003 := hcc
      refine rd_start (σ := [some (.ref p), some (.str (bodyR (.st T))), some (.int c), none, none, none]) rfl ?_
      walk_at "rd"
      refine use_chkL hc ?_
      obtain ⟨n, en⟩ : ∃ n : Nat, chkS c (bodyR (.st T)) = (n : Int) := ⟨_, (Int.toNat_of_nonneg hcc.1).symm⟩
      rw [en] at hcc ⊢
      have mb := fun t ht => mb t ht n en.symm
      clear en
      obtain ⟨b, eb⟩ : ∃ b, bodyR (.st T) = SX.S b := ⟨_, rfl⟩
      rw [eb] at mb bl ⊢
      rw [SX.S_len] at bl
      have mb : ∀ t, t ≤ 9 → ∀ m ∈ [b ++ [32, 35] ++ TL.numL (n + 1 + t), b ++ [32, 35] ++ (48 :: TL.numL n), b, b ++ [32, 35] ++ [], b ++ [32, 35] ++ (32 :: TL.numL n), (b ++ [32]) ++ [32, 35] ++ TL.numL n, b ++ [32, 35] ++ (TL.numL n ++ [32]), b ++ ([35] ++ TL.numL n), b ++ [32, 35] ++ (45 :: TL.numL n)], BadL c (SX.S m) ∧ 10 ∉ m ∧ m.length ≤ 1000000 ∧ 0 < m.length := mb
      have nl := num_len (n := n) (Nat.lt_trans (show n < 1000003 by omega) (by decide))
      walk_at "rd"
      rename_i r4 H4 h40 h41 hP4 hK4
      have hL : ∀ k : List Nat, k.length ≤ 1000 → (b ++ k).length ≤ 16777216 := fun k hk => by rw [List.length_append]; omega
      refine rd_iteD (fun c0 => ?_) (fun c0 => ?_)
      · walk_at "rd"
        refine rd_addS (j := [32, 35]) (by simp only [List.length_append, List.length_cons, List.length_nil]; omega) ?_
        walk_at "rd"
        rename_i r5 H5 h50 h51 hP5 hK5
        obtain ⟨t, rfl⟩ : ∃ k : Nat, r5 = (k : Int) := ⟨r5.toNat, by omega⟩
        have nl2 := num_len (n := n + 1 + t) (Nat.lt_of_lt_of_le (show n + 1 + t < 2000000 by omega) (by decide))
        rw [show ((n : Nat) : Int) + 1 + ((t : Nat) : Int) = ((n + 1 + t : Nat) : Int) by omega]
        refine ⟨_, rfl, log_le (by omega), ?_⟩
        rw [str_num]
        refine rd_addS (j := TL.numL (n + 1 + t)) (by simp only [List.length_append, List.length_cons, List.length_nil]; omega) ?_
        exact q _ _ (mb t (by omega) _ (List.mem_of_getElem? (i := 0) rfl)) hP5 (hK4.trans hK5)
      · walk_at "rd"
        refine rd_iteD (fun c1 => ?_) (fun c1 => ?_)
        · walk_at "rd"
          refine rd_addS (j := [32, 35, 48]) (by simp only [List.length_append, List.length_cons, List.length_nil]; omega) ?_
          walk_at "rd"
          refine ⟨_, rfl, log_le (by omega), ?_⟩
          rw [str_num]
          refine rd_addS (j := TL.numL n) (by simp only [List.length_append, List.length_cons, List.length_nil]; omega) ?_
          rw [show b ++ [32, 35, 48] ++ TL.numL n = b ++ [32, 35] ++ (48 :: TL.numL n) by simp]
          exact q _ _ (mb 0 (by decide) _ (List.mem_of_getElem? (i := 1) rfl)) hP4 hK4
        · have c0 : r4 ≠ 0 := fun z => c0 (congrArg V.int z)
          have c1 : r4 ≠ 1 := fun z => c1 (congrArg V.int z)
          obtain ⟨j, rfl, hj⟩ : ∃ k : Nat, r4 = ((k + 2 : Nat) : Int) ∧ k < 7 := ⟨(r4 - 2).toNat, by omega, by omega⟩
          walk_at "rd"
          refine rd_addS (j := [32, 35]) (by simp only [List.length_append, List.length_cons, List.length_nil]; omega) ?_
          walk_at "rd"
          refine rd_addS (j := [32, 35, 32]) (by simp only [List.length_append, List.length_cons, List.length_nil]; omega) ?_
          walk_at "rd"
          refine ⟨_, rfl, log_le (by omega), ?_⟩
          rw [str_num]
          refine rd_addS (j := TL.numL n) (by simp only [List.length_append, List.length_cons, List.length_nil]; omega) ?_
          walk_at "rd"
          refine rd_addS (j := [32, 32, 35]) (by simp only [List.length_append, List.length_cons, List.length_nil]; omega) ?_
          walk_at "rd"
          refine ⟨_, rfl, log_le (by omega), ?_⟩
          rw [str_num]
          refine rd_addS (j := TL.numL n) (by simp only [List.length_append, List.length_cons, List.length_nil]; omega) ?_
          walk_at "rd"
          rename_i p1 hp1
          refine rd_addS (j := [32, 35]) (by simp only [List.length_append, List.length_cons, List.length_nil]; omega) ?_
          walk_at "rd"
          refine ⟨_, rfl, log_le (by omega), ?_⟩
          rw [str_num]
          refine rd_addS (j := TL.numL n) (by simp only [List.length_append, List.length_cons, List.length_nil]; omega) ?_
          walk_at "rd"
          refine rd_addS (j := [32]) (by simp only [List.length_append, List.length_cons, List.length_nil]; omega) ?_
          walk_at "rd"
          refine rd_addS (j := [35]) (by simp only [List.length_append, List.length_cons, List.length_nil]; omega) ?_
          walk_at "rd"
          refine ⟨_, rfl, log_le (by omega), ?_⟩
          rw [str_num]
          refine rd_addS (j := TL.numL n) (by simp only [List.length_append, List.length_cons, List.length_nil]; omega) ?_
          walk_at "rd"
          refine rd_addS (j := [32, 35, 45]) (by simp only [List.length_append, List.length_cons, List.length_nil]; omega) ?_
          walk_at "rd"
          refine ⟨_, rfl, log_le (by omega), ?_⟩
          rw [str_num]
          refine rd_addS (j := TL.numL n) (by simp only [List.length_append, List.length_cons, List.length_nil]; omega) ?_
          walk_at "rd"
          rename_i p2 hp2
          refine rd_catG (look_new hp2 upd_same) upd_same (show 4 + 3 ≤ 1000 by decide) fun p3 hp3 => ?_
          have mb0 := fun m hm => mb 0 (by decide) m hm
          have hms : ∀ m ∈ [b, b ++ [32, 35], b ++ [32, 35, 32] ++ TL.numL n, b ++ [32, 32, 35] ++ TL.numL n, b ++ [32, 35] ++ TL.numL n ++ [32], b ++ [35] ++ TL.numL n, b ++ [32, 35, 45] ++ TL.numL n], BadL c (SX.S m) ∧ 10 ∉ m ∧ m.length ≤ 1000000 ∧ 0 < m.length := by
            intro m hm
            simp only [List.mem_cons, List.not_mem_nil, or_false] at hm
            rcases hm with rfl | rfl | rfl | rfl | rfl | rfl | rfl
            · exact mb0 _ (List.mem_of_getElem? (i := 2) rfl)
            · have z := mb0 _ (List.mem_of_getElem? (i := 3) rfl)
              rw [List.append_nil] at z
              exact z
            · have z := mb0 _ (List.mem_of_getElem? (i := 4) rfl)
              rw [show b ++ [32, 35] ++ (32 :: TL.numL n) = b ++ [32, 35, 32] ++ TL.numL n by simp] at z
              exact z
            · have z := mb0 _ (List.mem_of_getElem? (i := 5) rfl)
              rw [show b ++ [32] ++ [32, 35] ++ TL.numL n = b ++ [32, 32, 35] ++ TL.numL n by simp] at z
              exact z
            · have z := mb0 _ (List.mem_of_getElem? (i := 6) rfl)
              rw [show b ++ [32, 35] ++ (TL.numL n ++ [32]) = b ++ [32, 35] ++ TL.numL n ++ [32] by simp] at z
              exact z
            · have z := mb0 _ (List.mem_of_getElem? (i := 7) rfl)
              rw [show b ++ ([35] ++ TL.numL n) = b ++ [35] ++ TL.numL n by simp] at z
              exact z
            · have z := mb0 _ (List.mem_of_getElem? (i := 8) rfl)
              rw [show b ++ [32, 35] ++ (45 :: TL.numL n) = b ++ [32, 35, 45] ++ TL.numL n by simp] at z
              exact z
          generalize hms' : [b, b ++ [32, 35], b ++ [32, 35, 32] ++ TL.numL n, b ++ [32, 32, 35] ++ TL.numL n, b ++ [32, 35] ++ TL.numL n ++ [32], b ++ [35] ++ TL.numL n, b ++ [32, 35, 45] ++ TL.numL n] = ms at hms
          have hml : ms.length = 7 := by rw [← hms']; rfl
          walk_at "rd"
          rw [show ((j + 2 : Nat) : Int) - 2 = ((j : Nat) : Int) by omega]
          obtain ⟨m, hm⟩ : ∃ m, ms[j]? = some m := ⟨_, List.getElem?_eq_getElem (by omega)⟩
          refine rd_ixL (v := .str (SX.S m)) (SqL.of upd_same) (atI_nat ?_) ?_
          · rw [show [V.str (SX.S b), V.str (SX.S (b ++ [32, 35])), V.str (SX.S (b ++ [32, 35, 32] ++ TL.numL n)), V.str (SX.S (b ++ [32, 32, 35] ++ TL.numL n))] ++ [V.str (SX.S (b ++ [32, 35] ++ TL.numL n ++ [32])), V.str (SX.S (b ++ [35] ++ TL.numL n)), V.str (SX.S (b ++ [32, 35, 45] ++ TL.numL n))] = ms.map fun m => V.str (SX.S m) by rw [← hms']; rfl, List.getElem?_map, hm]
            rfl
          have sE := (same_new (o := .lst [V.str (SX.S b), V.str (SX.S (b ++ [32, 35])), V.str (SX.S (b ++ [32, 35, 32] ++ TL.numL n)), V.str (SX.S (b ++ [32, 32, 35] ++ TL.numL n))]) hp1).trans ((same_new (o := .lst [V.str (SX.S (b ++ [32, 35] ++ TL.numL n ++ [32])), V.str (SX.S (b ++ [35] ++ TL.numL n)), V.str (SX.S (b ++ [32, 35, 45] ++ TL.numL n))]) hp2))
          exact q _ _ (hms m (List.mem_of_getElem? hm)) (hP4.same (sE.trans (same_new hp3))) (hK4.trans (Kp.of (sE.trans (same_new hp3))))
    ) only [↓lt_eq]
theorem ok_with {f : Addr} {fd : FuncData} {f_check : Addr} {fd_check : FuncData}    (D : Dn K mg "_law_with" s_with ["_law_lines_here", "_law_check_here", "_law_body_here"] f fd) (bi : Bi mg) (G_check : FnOk P w K mg base CX0 1 f_check fd_check ["_law_before", "_law_body_here"] spChkL) (D_check : Dn K mg "_law_check" s_check ["_law_before", "_law_body_here"] f_check fd_check)     : FnOk P w K mg base CX0 2 f fd ["_law_lines_here", "_law_check_here", "_law_body_here"] spWith := by
  refine lt_out ?_
  simp (disch := with_unfolding_all
    refine D.F.ok sc_with (fun vs H Q E h => ?_) (fun cdv A outer s H vs Q E hr h => ?_)
    · obtain ⟨a, ls, c, b, rfl, _⟩ := h
      rfl
    · obtain ⟨a, ls, c, b, rfl, h, hc, l1, l2, l3, q⟩ := h
      refine ⟨_, (pss_one (ps_ret (pe_bm PySem.F.plainAttrs_str PySem.F.slot_str_join PySem.F.type_str_join mt_joinK pe_str (pa_cons (pe_op op_cat (pv 0) (pe_lst (pa_cons (pe_op op_addT (pe_op op_addT (pv 2) pe_str) (pe_callTy (show CallR _ (.type "str") _ from call_str_int) (by rfl) bi.str_ (by decide +kernel) (pa_cons (pe_call G_check (hr.mono (by first | decide | exact Nat.le_refl _)) (by rfl) D_check.g D_check.F.kp D_check.b .nil pass0 (pa_cons (pv 1) (pa_cons (pv 2) pa_nil))) pa_nil))) pa_nil))) pa_nil)))), ?_⟩
      have hcc := chkL_le hc b.cps.toList
      have hcc : 0 ≤ chkS c b ∧ chkS c b < 1000003 := hcc
      have hll := lineX_len (b := b) hcc.1 hcc.2
      unfold lineS at hll
      rw [Str.length_append, Str.length_append, hash_len] at hll
      refine rd_start (σ := [some (.ref a), some (.int c), some (.str b)]) rfl ?_
      walk_at "rd"
      refine rd_addX (by rw [hash_len]; omega) ?_
      walk_at "rd"
      refine use_chkL hc ?_
      walk_at "rd"
      refine ⟨_, rfl, log_le (by omega), ?_⟩
      refine rd_addX (by rw [Str.length_append, hash_len]; omega) ?_
      walk_at "rd"
      rename_i p1 hp1
      refine rd_catG (look_new hp1 h) upd_same (by rw [List.length_map]; show ls.length + 1 ≤ 1000; omega) fun p2 hp2 => ?_
      have e2 : ls.map V.str ++ [V.str (b ++ Str.ofString " #" ++ ((toString (chkS c b) : String) : Str))] = (ls ++ [lineS b (chkS c b)]).map V.str := by rw [List.map_append]; rfl
      rw [e2]
      walk_at "rd"
      refine rd_joinX (SqL.of upd_same) ?_ ?_
      · rw [one_nl, List.map_append, List.sum_append, List.length_append]
        unfold lineS
        rw [List.map_cons, List.map_nil, List.sum_cons, List.sum_nil, Str.length_append, Str.length_append, hash_len]
        show _ + _ + (ls.length + 1) * 1 ≤ _
        omega
      · exact q _ ((same_new hp1).trans (same_new hp2))
    ) only [↓lt_eq]
theorem ok_same0 {f : Addr} {fd : FuncData} (D_same : Dn K mg "_law_same" s_same ["_law_actual", "_law_due"] f fd) (bi : Bi mg) : FnOk P w K mg base CX0 1 f fd ["_law_actual", "_law_due"] (spSame K 0) := by
  refine lt_out ?_
  simp (disch := with_unfolding_all
    refine D_same.F.ok sc_same (fun vs H Q E h => ?_) (fun cdv A outer s H vs Q E hr h => ?_)
    · obtain ⟨x, y, rfl, _⟩ := h
      rfl
    · obtain ⟨x, y, rfl, HS, q⟩ := h
      obtain ⟨rfl, hx⟩ := HS
      refine ⟨_, (pss_cons (ps_if (pt_cmpR cIsN (pv 1) pe_non (nomark _))
   (pss_one (ps_ret (pe_cmpR cIsN (pv 0) pe_non (nomark _))))
   pss_nil)
   (pss_cons (ps_if (pt_val (pe_callB call_isi (by rfl) bi.isinstance_ (by decide +kernel) (pa_cons (pv 1) (pa_cons (pe_bltn (v := .ty "bool") (by rfl) bi.bool_ (by decide +kernel) rfl) pa_nil))))
   (pss_one (ps_ret (pe_and (pe_callB call_isi (by rfl) bi.isinstance_ (by decide +kernel) (pa_cons (pv 0) (pa_cons (pe_bltn (v := .ty "bool") (by rfl) bi.bool_ (by decide +kernel) rfl) pa_nil))) (pe_one (pe_cmpR op_eq (pv 0) (pv 1) (nomark _))))))
   pss_nil)
   (pss_cons (ps_if (pt_val (pe_callB call_isi (by rfl) bi.isinstance_ (by decide +kernel) (pa_cons (pv 1) (pa_cons (pe_bltn (v := .ty "int") (by rfl) bi.int_ (by decide +kernel) rfl) pa_nil))))
   (pss_one (ps_ret (pe_and (pe_callB call_isi (by rfl) bi.isinstance_ (by decide +kernel) (pa_cons (pv 0) (pa_cons (pe_bltn (v := .ty "int") (by rfl) bi.int_ (by decide +kernel) rfl) pa_nil))) (pe_and (pe_not (pe_callB call_isi (by rfl) bi.isinstance_ (by decide +kernel) (pa_cons (pv 0) (pa_cons (pe_bltn (v := .ty "bool") (by rfl) bi.bool_ (by decide +kernel) rfl) pa_nil)))) (pe_one (pe_cmpR op_eq (pv 0) (pv 1) (nomark _)))))))
   pss_nil)
   (pss_cons (ps_if (pt_val (pe_callB call_isi (by rfl) bi.isinstance_ (by decide +kernel) (pa_cons (pv 1) (pa_cons (pe_bltn (v := .ty "str") (by rfl) bi.str_ (by decide +kernel) rfl) pa_nil))))
   (pss_one (ps_ret (pe_and (pe_callB call_isi (by rfl) bi.isinstance_ (by decide +kernel) (pa_cons (pv 0) (pa_cons (pe_bltn (v := .ty "str") (by rfl) bi.str_ (by decide +kernel) rfl) pa_nil))) (pe_one (pe_cmpR op_eq (pv 0) (pv 1) (nomark _))))))
   pss_nil)
   pss_never)))), ?_⟩
      refine rd_start (σ := [some x, some x, none, none]) rfl ?_
      have hQ := q H (Same.refl _)
      cases x with
      | non =>
        walk_at "rd"
        refine if_yesD rfl ?_
        walk_at "rd"
        rw [show decide (V.non = V.non) = true from decide_eq_true rfl]
        exact hQ
      | bl b =>
        walk_at "rd"
        refine if_noD (fun z => V.noConfusion z) ?_
        walk_at "rd"
        rw [show decide (V.bl b = V.bl b) = true from decide_eq_true rfl]
        exact hQ
      | int b =>
        walk_at "rd"
        refine if_noD (fun z => V.noConfusion z) ?_
        walk_at "rd"
        rw [show decide (V.int b = V.int b) = true from decide_eq_true rfl]
        exact hQ
      | str b =>
        walk_at "rd"
        refine if_noD (fun z => V.noConfusion z) ?_
        walk_at "rd"
        rw [show decide (V.str b = V.str b) = true from decide_eq_true rfl]
        exact hQ
      | ref _ => exact Bool.noConfusion hx
      | byt _ => exact Bool.noConfusion hx
      | flt _ => exact Bool.noConfusion hx
      | ty _ => exact Bool.noConfusion hx
    ) only [↓lt_eq]
theorem ok_sameS {f : Addr} {fd : FuncData} {n k : Nat} (D_same : Dn K mg "_law_same" s_same ["_law_actual", "_law_due"] f fd) (bi : Bi mg) (G_same : FnOk P w K mg base CX0 (k + 1) f fd ["_law_actual", "_law_due"] (spSame K n)) : FnOk P w K mg base CX0 (k + 2) f fd ["_law_actual", "_law_due"] (spSame K (n + 1)) := by
  refine lt_out ?_
  simp (disch := with_unfolding_all
    refine D_same.F.ok sc_same (fun vs H Q E h => ?_) (fun cdv A outer s H vs Q E hr h => ?_)
    · obtain ⟨x, y, rfl, _⟩ := h
      rfl
    · obtain ⟨x, y, rfl, HS, q⟩ := h
      rcases HS with HS | ⟨a, b, xs, ys, rfl, rfl, h1, h2, hl, HI⟩ | ⟨a, b, xs, ys, rfl, rfl, h1, h2, hl, HI⟩
      · obtain ⟨rfl, hx⟩ := HS
        refine ⟨_, (pss_cons (ps_if (pt_cmpR cIsN (pv 1) pe_non (nomark _))
   (pss_one (ps_ret (pe_cmpR cIsN (pv 0) pe_non (nomark _))))
   pss_nil)
   (pss_cons (ps_if (pt_val (pe_callB call_isi (by rfl) bi.isinstance_ (by decide +kernel) (pa_cons (pv 1) (pa_cons (pe_bltn (v := .ty "bool") (by rfl) bi.bool_ (by decide +kernel) rfl) pa_nil))))
   (pss_one (ps_ret (pe_and (pe_callB call_isi (by rfl) bi.isinstance_ (by decide +kernel) (pa_cons (pv 0) (pa_cons (pe_bltn (v := .ty "bool") (by rfl) bi.bool_ (by decide +kernel) rfl) pa_nil))) (pe_one (pe_cmpR op_eq (pv 0) (pv 1) (nomark _))))))
   pss_nil)
   (pss_cons (ps_if (pt_val (pe_callB call_isi (by rfl) bi.isinstance_ (by decide +kernel) (pa_cons (pv 1) (pa_cons (pe_bltn (v := .ty "int") (by rfl) bi.int_ (by decide +kernel) rfl) pa_nil))))
   (pss_one (ps_ret (pe_and (pe_callB call_isi (by rfl) bi.isinstance_ (by decide +kernel) (pa_cons (pv 0) (pa_cons (pe_bltn (v := .ty "int") (by rfl) bi.int_ (by decide +kernel) rfl) pa_nil))) (pe_and (pe_not (pe_callB call_isi (by rfl) bi.isinstance_ (by decide +kernel) (pa_cons (pv 0) (pa_cons (pe_bltn (v := .ty "bool") (by rfl) bi.bool_ (by decide +kernel) rfl) pa_nil)))) (pe_one (pe_cmpR op_eq (pv 0) (pv 1) (nomark _)))))))
   pss_nil)
   (pss_cons (ps_if (pt_val (pe_callB call_isi (by rfl) bi.isinstance_ (by decide +kernel) (pa_cons (pv 1) (pa_cons (pe_bltn (v := .ty "str") (by rfl) bi.str_ (by decide +kernel) rfl) pa_nil))))
   (pss_one (ps_ret (pe_and (pe_callB call_isi (by rfl) bi.isinstance_ (by decide +kernel) (pa_cons (pv 0) (pa_cons (pe_bltn (v := .ty "str") (by rfl) bi.str_ (by decide +kernel) rfl) pa_nil))) (pe_one (pe_cmpR op_eq (pv 0) (pv 1) (nomark _))))))
   pss_nil)
   pss_never)))), ?_⟩
        refine rd_start (σ := [some x, some x, none, none]) rfl ?_
        have hQ := q H (Same.refl _)
        cases x with
        | non =>
          walk_at "rd"
          refine if_yesD rfl ?_
          walk_at "rd"
          rw [show decide (V.non = V.non) = true from decide_eq_true rfl]
          exact hQ
        | bl b =>
          walk_at "rd"
          refine if_noD (fun z => V.noConfusion z) ?_
          walk_at "rd"
          rw [show decide (V.bl b = V.bl b) = true from decide_eq_true rfl]
          exact hQ
        | int b =>
          walk_at "rd"
          refine if_noD (fun z => V.noConfusion z) ?_
          walk_at "rd"
          rw [show decide (V.int b = V.int b) = true from decide_eq_true rfl]
          exact hQ
        | str b =>
          walk_at "rd"
          refine if_noD (fun z => V.noConfusion z) ?_
          walk_at "rd"
          rw [show decide (V.str b = V.str b) = true from decide_eq_true rfl]
          exact hQ
        | ref _ => exact Bool.noConfusion hx
        | byt _ => exact Bool.noConfusion hx
        | flt _ => exact Bool.noConfusion hx
        | ty _ => exact Bool.noConfusion hx

      · refine ⟨_, (pss_cons (ps_if (pt_cmpR cIsN (pv 1) pe_non (nomark _))
   (pss_one (ps_ret (pe_cmpR cIsN (pv 0) pe_non (nomark _))))
   pss_nil)
   (pss_cons (ps_if (pt_val (pe_callB call_isi (by rfl) bi.isinstance_ (by decide +kernel) (pa_cons (pv 1) (pa_cons (pe_bltn (v := .ty "bool") (by rfl) bi.bool_ (by decide +kernel) rfl) pa_nil))))
   (pss_one (ps_ret (pe_and (pe_callB call_isi (by rfl) bi.isinstance_ (by decide +kernel) (pa_cons (pv 0) (pa_cons (pe_bltn (v := .ty "bool") (by rfl) bi.bool_ (by decide +kernel) rfl) pa_nil))) (pe_one (pe_cmpR op_eq (pv 0) (pv 1) (nomark _))))))
   pss_nil)
   (pss_cons (ps_if (pt_val (pe_callB call_isi (by rfl) bi.isinstance_ (by decide +kernel) (pa_cons (pv 1) (pa_cons (pe_bltn (v := .ty "int") (by rfl) bi.int_ (by decide +kernel) rfl) pa_nil))))
   (pss_one (ps_ret (pe_and (pe_callB call_isi (by rfl) bi.isinstance_ (by decide +kernel) (pa_cons (pv 0) (pa_cons (pe_bltn (v := .ty "int") (by rfl) bi.int_ (by decide +kernel) rfl) pa_nil))) (pe_and (pe_not (pe_callB call_isi (by rfl) bi.isinstance_ (by decide +kernel) (pa_cons (pv 0) (pa_cons (pe_bltn (v := .ty "bool") (by rfl) bi.bool_ (by decide +kernel) rfl) pa_nil)))) (pe_one (pe_cmpR op_eq (pv 0) (pv 1) (nomark _)))))))
   pss_nil)
   (pss_cons (ps_if (pt_val (pe_callB call_isi (by rfl) bi.isinstance_ (by decide +kernel) (pa_cons (pv 1) (pa_cons (pe_bltn (v := .ty "str") (by rfl) bi.str_ (by decide +kernel) rfl) pa_nil))))
   (pss_one (ps_ret (pe_and (pe_callB call_isi (by rfl) bi.isinstance_ (by decide +kernel) (pa_cons (pv 0) (pa_cons (pe_bltn (v := .ty "str") (by rfl) bi.str_ (by decide +kernel) rfl) pa_nil))) (pe_one (pe_cmpR op_eq (pv 0) (pv 1) (nomark _))))))
   pss_nil)
   (pss_cons (ps_if (PW.pt (pw_and (pt_val (pe_callB call_isi (by rfl) bi.isinstance_ (by decide +kernel) (pa_cons (pv 1) (pa_cons (pe_bltn (v := .ty "list") (by rfl) bi.list_ (by decide +kernel) rfl) pa_nil)))) (pw_and1 (pt_not (pt_val (pe_callB call_isi (by rfl) bi.isinstance_ (by decide +kernel) (pa_cons (pv 0) (pa_cons (pe_bltn (v := .ty "list") (by rfl) bi.list_ (by decide +kernel) rfl) pa_nil))))))))
   (pss_one (ps_ret pe_bl))
   pss_nil)
   (pss_cons (ps_if (PW.pt (pw_and (pt_val (pe_callB call_isi (by rfl) bi.isinstance_ (by decide +kernel) (pa_cons (pv 1) (pa_cons (pe_bltn (v := .ty "tuple") (by rfl) bi.tuple_ (by decide +kernel) rfl) pa_nil)))) (pw_and1 (pt_not (pt_val (pe_callB call_isi (by rfl) bi.isinstance_ (by decide +kernel) (pa_cons (pv 0) (pa_cons (pe_bltn (v := .ty "tuple") (by rfl) bi.tuple_ (by decide +kernel) rfl) pa_nil))))))))
   (pss_one (ps_ret pe_bl))
   pss_nil)
   (pss_cons (ps_if (pt_cmpR op_ne (pe_callB cLen (by rfl) bi.len_ (by decide +kernel) (pa_cons (pv 0) pa_nil)) (pe_callB cLen (by rfl) bi.len_ (by decide +kernel) (pa_cons (pv 1) pa_nil)) (nomark _))
   (pss_one (ps_ret pe_bl))
   pss_nil)
   (pss_cons (ps_for PassesOwn.never rfl (RZ.pi_zipA (by rfl) bi.zip_ (pa_cons (pv 0) (pa_cons (pv 1) pa_nil))) (pg_tup rfl (pgs_cons (pg_name (i := 2) sc_same.nd rfl (Or.inl rfl)) (pgs_cons (pg_name (i := 3) sc_same.nd rfl (Or.inl rfl)) pgs_nil)))
   (pss_one (ps_if (pt_not (pt_val (pe_call G_same (hr.mono (by first | decide | exact Nat.le_refl _)) (by rfl) D_same.g D_same.F.kp D_same.b .nil pass0 (pa_cons (pv 2) (pa_cons (pv 3) pa_nil)))))
   (pss_one (ps_ret pe_bl))
   pss_nil)))
   (pss_one (ps_ret pe_bl)))))))))), ?_⟩
        refine rd_start (σ := [some (.ref a), some (.ref b), none, none]) rfl ?_
        have L1 := h1.1
        have L2 := h2.1
        walk_at "rd"
        refine if_noD (fun z => V.noConfusion z) ?_
        walk_at "rd"
        refine isi_ty h2.2 (d := false) (by decide +kernel) ?_
        walk_at "rd"
        refine isi_ty h2.2 (d := false) (by decide +kernel) ?_
        walk_at "rd"
        refine isi_ty h2.2 (d := false) (by decide +kernel) ?_
        walk_at "rd"
        refine isi_ty h2.2 (d := true) (by decide +kernel) ?_
        walk_at "rd"
        refine isi_ty h1.2 (d := true) (by decide +kernel) ?_
        walk_at "rd"
        refine isi_ty h2.2 (d := false) (by decide +kernel) ?_
        walk_at "rd"
        refine if_noN (by rw [hl]) ?_
        walk_at "rd"
        refine ⟨a, b, xs, ys, rfl, .inl ⟨L1, L2, ?_⟩⟩
        refine for_zip hl (fun i σ H' => ∃ t u, σ = [some (.ref a), some (.ref b), t, u] ∧ Same H H') ⟨none, none, rfl, Same.refl _⟩ (fun i σ H1 _ hI => ?_) (fun i v u σ H1 T hv hu hI hT => ?_) (fun σ H1 hI => ?_)
        · obtain ⟨t, u, rfl, hs⟩ := hI
          exact ⟨hs.seq L1, hs.seq L2⟩
        · obtain ⟨t, u', rfl, hs⟩ := hI
          walk_at "rd"
          refine use_same (.same (hs.trans (same_new hT)) _ (HI i v u hv hu)) fun H2 hs2 => ?_
          walk_at "rd"
          exact ⟨_, _, rfl, (hs.trans (same_new hT)).trans hs2⟩
        · obtain ⟨t, u, rfl, hs⟩ := hI
          walk_at "rd"
          exact q _ hs
      · refine ⟨_, (pss_cons (ps_if (pt_cmpR cIsN (pv 1) pe_non (nomark _))
   (pss_one (ps_ret (pe_cmpR cIsN (pv 0) pe_non (nomark _))))
   pss_nil)
   (pss_cons (ps_if (pt_val (pe_callB call_isi (by rfl) bi.isinstance_ (by decide +kernel) (pa_cons (pv 1) (pa_cons (pe_bltn (v := .ty "bool") (by rfl) bi.bool_ (by decide +kernel) rfl) pa_nil))))
   (pss_one (ps_ret (pe_and (pe_callB call_isi (by rfl) bi.isinstance_ (by decide +kernel) (pa_cons (pv 0) (pa_cons (pe_bltn (v := .ty "bool") (by rfl) bi.bool_ (by decide +kernel) rfl) pa_nil))) (pe_one (pe_cmpR op_eq (pv 0) (pv 1) (nomark _))))))
   pss_nil)
   (pss_cons (ps_if (pt_val (pe_callB call_isi (by rfl) bi.isinstance_ (by decide +kernel) (pa_cons (pv 1) (pa_cons (pe_bltn (v := .ty "int") (by rfl) bi.int_ (by decide +kernel) rfl) pa_nil))))
   (pss_one (ps_ret (pe_and (pe_callB call_isi (by rfl) bi.isinstance_ (by decide +kernel) (pa_cons (pv 0) (pa_cons (pe_bltn (v := .ty "int") (by rfl) bi.int_ (by decide +kernel) rfl) pa_nil))) (pe_and (pe_not (pe_callB call_isi (by rfl) bi.isinstance_ (by decide +kernel) (pa_cons (pv 0) (pa_cons (pe_bltn (v := .ty "bool") (by rfl) bi.bool_ (by decide +kernel) rfl) pa_nil)))) (pe_one (pe_cmpR op_eq (pv 0) (pv 1) (nomark _)))))))
   pss_nil)
   (pss_cons (ps_if (pt_val (pe_callB call_isi (by rfl) bi.isinstance_ (by decide +kernel) (pa_cons (pv 1) (pa_cons (pe_bltn (v := .ty "str") (by rfl) bi.str_ (by decide +kernel) rfl) pa_nil))))
   (pss_one (ps_ret (pe_and (pe_callB call_isi (by rfl) bi.isinstance_ (by decide +kernel) (pa_cons (pv 0) (pa_cons (pe_bltn (v := .ty "str") (by rfl) bi.str_ (by decide +kernel) rfl) pa_nil))) (pe_one (pe_cmpR op_eq (pv 0) (pv 1) (nomark _))))))
   pss_nil)
   (pss_cons (ps_if (PW.pt (pw_and (pt_val (pe_callB call_isi (by rfl) bi.isinstance_ (by decide +kernel) (pa_cons (pv 1) (pa_cons (pe_bltn (v := .ty "list") (by rfl) bi.list_ (by decide +kernel) rfl) pa_nil)))) (pw_and1 (pt_not (pt_val (pe_callB call_isi (by rfl) bi.isinstance_ (by decide +kernel) (pa_cons (pv 0) (pa_cons (pe_bltn (v := .ty "list") (by rfl) bi.list_ (by decide +kernel) rfl) pa_nil))))))))
   (pss_one (ps_ret pe_bl))
   pss_nil)
   (pss_cons (ps_if (PW.pt (pw_and (pt_val (pe_callB call_isi (by rfl) bi.isinstance_ (by decide +kernel) (pa_cons (pv 1) (pa_cons (pe_bltn (v := .ty "tuple") (by rfl) bi.tuple_ (by decide +kernel) rfl) pa_nil)))) (pw_and1 (pt_not (pt_val (pe_callB call_isi (by rfl) bi.isinstance_ (by decide +kernel) (pa_cons (pv 0) (pa_cons (pe_bltn (v := .ty "tuple") (by rfl) bi.tuple_ (by decide +kernel) rfl) pa_nil))))))))
   (pss_one (ps_ret pe_bl))
   pss_nil)
   (pss_cons (ps_if (pt_cmpR op_ne (pe_callB cLen (by rfl) bi.len_ (by decide +kernel) (pa_cons (pv 0) pa_nil)) (pe_callB cLen (by rfl) bi.len_ (by decide +kernel) (pa_cons (pv 1) pa_nil)) (nomark _))
   (pss_one (ps_ret pe_bl))
   pss_nil)
   (pss_cons (ps_for PassesOwn.never rfl (RZ.pi_zipA (by rfl) bi.zip_ (pa_cons (pv 0) (pa_cons (pv 1) pa_nil))) (pg_tup rfl (pgs_cons (pg_name (i := 2) sc_same.nd rfl (Or.inl rfl)) (pgs_cons (pg_name (i := 3) sc_same.nd rfl (Or.inl rfl)) pgs_nil)))
   (pss_one (ps_if (pt_not (pt_val (pe_call G_same (hr.mono (by first | decide | exact Nat.le_refl _)) (by rfl) D_same.g D_same.F.kp D_same.b .nil pass0 (pa_cons (pv 2) (pa_cons (pv 3) pa_nil)))))
   (pss_one (ps_ret pe_bl))
   pss_nil)))
   (pss_one (ps_ret pe_bl)))))))))), ?_⟩
        refine rd_start (σ := [some (.ref a), some (.ref b), none, none]) rfl ?_
        have L1 := h1.1
        have L2 := h2.1
        walk_at "rd"
        refine if_noD (fun z => V.noConfusion z) ?_
        walk_at "rd"
        refine isi_ty h2.2 (d := false) (by decide +kernel) ?_
        walk_at "rd"
        refine isi_ty h2.2 (d := false) (by decide +kernel) ?_
        walk_at "rd"
        refine isi_ty h2.2 (d := false) (by decide +kernel) ?_
        walk_at "rd"
        refine isi_ty h2.2 (d := false) (by decide +kernel) ?_
        walk_at "rd"
        refine isi_ty h2.2 (d := true) (by decide +kernel) ?_
        walk_at "rd"
        refine isi_ty h1.2 (d := true) (by decide +kernel) ?_
        walk_at "rd"
        refine if_noN (by rw [hl]) ?_
        walk_at "rd"
        refine ⟨a, b, xs, ys, rfl, .inr ⟨L1, L2, ?_⟩⟩
        refine for_zipT hl (fun i σ H' => ∃ t u, σ = [some (.ref a), some (.ref b), t, u] ∧ Same H H') ⟨none, none, rfl, Same.refl _⟩ (fun i σ H1 _ hI => ?_) (fun i v u σ H1 T hv hu hI hT => ?_) (fun σ H1 hI => ?_)
        · obtain ⟨t, u, rfl, hs⟩ := hI
          exact ⟨same_seqT hs L1, same_seqT hs L2⟩
        · obtain ⟨t, u', rfl, hs⟩ := hI
          walk_at "rd"
          refine use_same (.same (hs.trans (same_new hT)) _ (HI i v u hv hu)) fun H2 hs2 => ?_
          walk_at "rd"
          exact ⟨_, _, rfl, (hs.trans (same_new hT)).trans hs2⟩
        · obtain ⟨t, u, rfl, hs⟩ := hI
          walk_at "rd"
          exact q _ hs
    ) only [↓lt_eq]
theorem ok_sizes_right {f : Addr} {fd : FuncData} {f_with : Addr} {fd_with : FuncData} {f_recovered : Addr} {fd_recovered : FuncData} {f_told : Addr} {fd_told : FuncData} {f_same : Addr} {fd_same : FuncData}    (D : Dn K mg "_law_sizes_right" s_sizes_right ["_law_lines_here", "_law_records", "_law_check_here"] f fd) (bi : Bi mg) (G_with : FnOk P w K mg base CX0 2 f_with fd_with ["_law_lines_here", "_law_check_here", "_law_body_here"] spWith) (D_with : Dn K mg "_law_with" s_with ["_law_lines_here", "_law_check_here", "_law_body_here"] f_with fd_with) (G_recovered : FnOk P w K mg base CX0 10 f_recovered fd_recovered ["_law_value"] spRecoL) (D_recovered : Dn K mg "_law_recovered" s_recovered ["_law_value"] f_recovered fd_recovered) (G_told : FnOk P w K mg base CX0 12 f_told fd_told ["_law_value"] spTold86) (D_told : Dn K mg "_law_told" s_told ["_law_value"] f_told fd_told) (G_same : FnOk P w K mg base CX0 5 f_same fd_same ["_law_actual", "_law_due"] (spSame K 4)) (D_same : Dn K mg "_law_same" s_same ["_law_actual", "_law_due"] f_same fd_same)    (zdg : DgK K) : FnOk P w K mg base CX0 13 f fd ["_law_lines_here", "_law_records", "_law_check_here"] (spSzR K) := by
  refine lt_out ?_
  simp (disch := with_unfolding_all
    refine D.F.ok sc_sizes_right (fun vs H Q E h => ?_) (fun cdv A outer s H vs Q E hr h => ?_)
    · obtain ⟨a, b, refs, rs, T, rfl, _⟩ := h
      rfl
    · obtain ⟨a, b, refs, rs, T, rfl, h1, h2, h3, hV, hl, q⟩ := h
      have okR := hV.ok
      have hrl := h3.len
      have hc := chkR_le rs 1 (by decide) (by decide)
      have ll := linesR_length 1 rs
      have l2 : ((linesR 1 rs).map (·.length)).sum ≤ 6000000 := by
        have := linesW_sum (okW okR) (by rw [List.length_map]; omega)
        rw [linesW_R] at this
        omega
      refine ⟨_, (pss_cons (ps_set (i := 3) sc_sizes_right.nd rfl (Or.inl rfl) (pe_callB cLen (by rfl) bi.len_ (by decide +kernel) (pa_cons (pv 1) pa_nil)))
   (pss_cons (ps_set (i := 4) sc_sizes_right.nd rfl (Or.inl rfl) (pe_call G_with (hr.mono (by first | decide | exact Nat.le_refl _)) (by rfl) D_with.g D_with.F.kp D_with.b .nil pass0 (pa_cons (pv 0) (pa_cons (pv 2) (pa_cons pe_str pa_nil)))))
   (pss_cons (ps_if (pt_not (pt_val (pe_call G_same (hr.mono (by first | decide | exact Nat.le_refl _)) (by rfl) D_same.g D_same.F.kp D_same.b .nil pass0 (pa_cons (pe_call G_recovered (hr.mono (by first | decide | exact Nat.le_refl _)) (by rfl) D_recovered.g D_recovered.F.kp D_recovered.b .nil pass0 (pa_cons (pv 4) pa_nil)) (pa_cons (pe_op op_cat (pv 1) (pe_lst (pa_cons (pe_tup (pa_cons pe_str (pa_cons pe_int (pa_cons (pe_tup (pa_cons pe_int (pa_cons pe_int pa_nil))) (pa_cons pe_int (pa_cons pe_int (pa_cons pe_int (pa_cons pe_str pa_nil)))))))) pa_nil))) pa_nil)))))
   (pss_one (ps_ret pe_bl))
   pss_nil)
   (pss_cons (ps_if (pt_not (pt_val (pe_call G_same (hr.mono (by first | decide | exact Nat.le_refl _)) (by rfl) D_same.g D_same.F.kp D_same.b .nil pass0 (pa_cons (pe_call G_told (hr.mono (by first | decide | exact Nat.le_refl _)) (by rfl) D_told.g D_told.F.kp D_told.b .nil pass0 (pa_cons (pv 4) pa_nil)) (pa_cons (pe_lst (pa_cons pe_str (pa_cons (pv 3) (pa_cons pe_bl pa_nil)))) pa_nil)))))
   (pss_one (ps_ret pe_bl))
   pss_nil)
   (pss_cons (ps_set (i := 5) sc_sizes_right.nd rfl (Or.inl rfl) (pe_op op_mulT pe_str pe_int))
   (pss_cons (ps_set (i := 4) sc_sizes_right.nd rfl (Or.inl rfl) (pe_call G_with (hr.mono (by first | decide | exact Nat.le_refl _)) (by rfl) D_with.g D_with.F.kp D_with.b .nil pass0 (pa_cons (pv 0) (pa_cons (pv 2) (pa_cons (pe_op op_addT (pe_op op_addT pe_str (pv 5)) pe_str) pa_nil)))))
   (pss_cons (ps_if (pt_not (pt_val (pe_call G_same (hr.mono (by first | decide | exact Nat.le_refl _)) (by rfl) D_same.g D_same.F.kp D_same.b .nil pass0 (pa_cons (pe_call G_recovered (hr.mono (by first | decide | exact Nat.le_refl _)) (by rfl) D_recovered.g D_recovered.F.kp D_recovered.b .nil pass0 (pa_cons (pv 4) pa_nil)) (pa_cons (pe_op op_cat (pv 1) (pe_lst (pa_cons (pe_tup (pa_cons pe_str (pa_cons (pe_tup (pa_cons (pe_tup (pa_cons (pe_callTy (call_intZ zdg) (by rfl) bi.int_ (by decide +kernel) (pa_cons (pv 5) pa_nil)) (pa_cons pe_int pa_nil))) (pa_cons (pe_tup (pa_cons pe_int (pa_cons pe_int pa_nil))) pa_nil))) pa_nil))) pa_nil))) pa_nil)))))
   (pss_one (ps_ret pe_bl))
   pss_nil)
   (pss_cons (ps_if (pt_cmpR op_notN (pe_call G_told (hr.mono (by first | decide | exact Nat.le_refl _)) (by rfl) D_told.g D_told.F.kp D_told.b .nil pass0 (pa_cons (pv 4) pa_nil)) pe_non (nomark _))
   (pss_one (ps_ret pe_bl))
   pss_nil)
   (pss_cons (ps_for PassesOwn.never rfl (pi_list (pe_lst (pa_cons pe_int (pa_cons pe_int pa_nil)))) (pg_name (i := 6) sc_sizes_right.nd rfl (Or.inl rfl))
   (pss_cons (ps_set (i := 4) sc_sizes_right.nd rfl (Or.inl rfl) (pe_call G_with (hr.mono (by first | decide | exact Nat.le_refl _)) (by rfl) D_with.g D_with.F.kp D_with.b .nil pass0 (pa_cons (pv 0) (pa_cons (pv 2) (pa_cons (pe_op op_addT (pe_op op_addT pe_str (pe_op op_mulT pe_str (pv 6))) pe_str) pa_nil)))))
   (pss_cons (ps_if (pt_not (pt_val (pe_call G_same (hr.mono (by first | decide | exact Nat.le_refl _)) (by rfl) D_same.g D_same.F.kp D_same.b .nil pass0 (pa_cons (pe_call G_recovered (hr.mono (by first | decide | exact Nat.le_refl _)) (by rfl) D_recovered.g D_recovered.F.kp D_recovered.b .nil pass0 (pa_cons (pv 4) pa_nil)) (pa_cons (pv 1) pa_nil)))))
   (pss_one (ps_ret pe_bl))
   pss_nil)
   (pss_one (ps_if (pt_not (pt_val (pe_call G_same (hr.mono (by first | decide | exact Nat.le_refl _)) (by rfl) D_same.g D_same.F.kp D_same.b .nil pass0 (pa_cons (pe_call G_told (hr.mono (by first | decide | exact Nat.le_refl _)) (by rfl) D_told.g D_told.F.kp D_told.b .nil pass0 (pa_cons (pv 4) pa_nil)) (pa_cons (pe_lst (pa_cons pe_str (pa_cons (pe_op op_add (pv 3) pe_int) (pa_cons pe_bl pa_nil)))) pa_nil)))))
   (pss_one (ps_ret pe_bl))
   pss_nil)))))
   (pss_one (ps_ret pe_bl))))))))))), ?_⟩
      refine rd_start (σ := [some (.ref a), some (.ref b), some (.int (chkR 1 rs)), none, none, none, none]) rfl ?_
      walk_at "rd"
      refine use_with h1 hc (by omega) l2 (by decide +kernel) fun H1 s1 => ?_
      rw [← fbW_body]
      have sp1 := splY_snoc okR (by omega) fbW_ok
      walk_at "rd"
      refine use_recoL sp1 (by rw [List.length_append, List.length_map]; show rs.length + 1 ≤ 60; omega) fun D1 refs1 H2 s2 hD1 eD1 hR1 => ?_
      have s12 := s1.trans s2
      walk_at "rd"
      rename_i j1 hj1 e1 he1 p1 hp1
      have sj1 := same_new (o := .tup [.int 0, .int 0]) hj1
      have se1 := same_new (o := .tup [.str (Str.ofString "frame"), .int 1, .ref j1, .int 0, .int 1, .int 31, .str (Str.ofString "")]) he1
      have sp1' := same_new (o := .lst [.ref e1]) hp1
      have s3 := sj1.trans (se1.trans sp1')
      refine rd_catG (s3 _ _ (s12 _ _ h2)) upd_same (by show refs.length + 1 ≤ 1000; omega) fun p2 hp2 => ?_
      have s4 := s3.trans (same_new (o := .lst (refs ++ [.ref e1])) hp2)
      walk_at "rd"
      refine use_same (sm_snocR (s4 _ _ eD1) upd_same okR (RsSh.same s4 hR1) (h3.lk (.of (s12.trans s4))) (fun v hv => sm_fb (((sp1'.trans (same_new (o := .lst (refs ++ [.ref e1])) hp2)) _ _ upd_same)) (((se1.trans (sp1'.trans (same_new (o := .lst (refs ++ [.ref e1])) hp2))) _ _ upd_same)) hv)) fun H3 s5 => ?_
      have s13 := s12.trans (s4.trans s5)
      walk_at "rd"
      refine use_told86 (PaY.fb sp1 (by omega) hV) fun u H4 s6 ho => ?_
      obtain ⟨D2, rfl, eD2⟩ := ho
      walk_at "rd"
      rename_i p3 hp3
      have s7 := same_new (o := .lst [.str (Str.ofString "record"), .int (refs.length : Nat), .bl true]) hp3
      refine use_same (sm_list (s7 _ _ eD2) (by rw [← hrl]; exact upd_same) (by simp [scalarV])) fun H5 s8 => ?_
      have s15 := s13.trans (s6.trans (s7.trans s8))
      clear s1 s2 s12 sj1 se1 sp1' s3 s4 s5 s13 s6 s7 s8 eD1 eD2 hR1 hD1
      walk_at "rd"
      refine (show rMulT (.str (Str.ofString "9")) (.int ((4000 : Nat) : Int)) _ _ from rd_mulT (c := 57) rfl (by decide) ?_)
      have nl : (List.replicate 4000 57).length = 4000 := List.length_replicate
      have nd := rep_dig 4000 57 (by decide)
      have n1 := nine_num
      have hin : intText? (SX.S (List.replicate 4000 57)) = some ((NumText.digitsVal (List.replicate 4000 57) : Nat) : Int) := intText_digits (x := SX.S (List.replicate 4000 57)) nd (by simp) (by rw [SX.S_len, nl]; decide)
      have n2 := nine_ok
      generalize List.replicate 4000 57 = N at nl nd n1 hin n2 ⊢
      walk_at "rd"
      refine rd_addS (i := [115, 116, 97, 116, 101, 32]) (j := N) (by rw [List.length_append, nl]; decide) ?_
      walk_at "rd"
      refine rd_addS (i := [115, 116, 97, 116, 101, 32] ++ N) (j := [32, 49, 32, 50, 32] ++ [49, 53]) (by rw [List.length_append, List.length_append, nl]; decide) ?_
      rw [← stW_body N [49, 53]]
      have sp2 := splY_snoc okR (by omega) n2
      walk_at "rd"
      refine use_with (s15 _ _ h1) hc (by omega) l2 (Nat.le_trans n2.len (by decide)) fun H6 s16 => ?_
      walk_at "rd"
      refine use_recoL sp2 (by rw [List.length_append, List.length_map]; show rs.length + 1 ≤ 60; omega) fun D3 refs3 H7 s17 hD3 eD3 hR3 => ?_
      walk_at "rd"
      refine rd_intZ hin (by rw [SX.S_len, nl]; unfold sizeLine; decide) ?_
      generalize NumText.digitsVal N = dv at n1 hin ⊢
      walk_at "rd"
      rename_i u1 hu1 u2 hu2 u3 hu3 u4 hu4 u5 hu5
      have r1 := same_new (o := .tup [.int (dv : Nat), .int 1]) hu1
      have r2 := same_new (o := .tup [.int 2, .int 15]) hu2
      have r3 := same_new (o := .tup [.ref u1, .ref u2]) hu3
      have r4 := same_new (o := .tup [.str (Str.ofString "state"), .ref u3]) hu4
      have r5 := same_new (o := .lst [.ref u4]) hu5
      have r15 := r1.trans (r2.trans (r3.trans (r4.trans r5)))
      have s17' := s15.trans (s16.trans s17)
      refine rd_catG (r15 _ _ (s17' _ _ h2)) upd_same (by show refs.length + 1 ≤ 1000; omega) fun u6 hu6 => ?_
      have r6 := same_new (o := .lst (refs ++ [.ref u4])) hu6
      have r16 := r15.trans r6
      have k4 := (r5.trans r6) _ _ (upd_same (a := u4) (o := .tup [.str (Str.ofString "state"), .ref u3]))
      have k3 := (r4.trans (r5.trans r6)) _ _ (upd_same (a := u3) (o := .tup [.ref u1, .ref u2]))
      have k2 := (r3.trans (r4.trans (r5.trans r6))) _ _ (upd_same (a := u2) (o := .tup [.int 2, .int 15]))
      have k1 := (r2.trans (r3.trans (r4.trans (r5.trans r6)))) _ _ (upd_same (a := u1) (o := .tup [.int (dv : Nat), .int 1]))
      walk_at "rd"
      refine use_same (sm_snocR (r16 _ _ eD3) upd_same okR (RsSh.same r16 hR3) (h3.lk (.of (s17'.trans r16))) (fun v hv => sm_rc (st_rcAt n1 (by decide +kernel) hv) (show RcAt K _ (.ref u4) (.st (((dv : Nat), 1), (2, 15))) from ⟨u4, u3, rfl, k4, u1, u2, .of k3, .of k1, .of k2⟩))) fun H8 s18 => ?_
      have s19 := s17'.trans (r16.trans s18)
      walk_at "rd"
      refine use_told86 (PaY.st sp2 (by omega) hV rfl) fun u H9 s20 ho => ?_
      obtain rfl := ho
      have s21 := s19.trans s20
      clear s16 s17 s18 s19 s20 r1 r2 r3 r4 r5 r6 r15 r16 k1 k2 k3 k4 eD3 hR3 hD3 s17' s15 hin
      walk_at "rd"
      refine ⟨rfl, ?_⟩
      refine rd_bl ?_
      refine if_noN rfl ?_
      walk_at "rd"
      rename_i w1 hw1
      refine rd_lpL (SqL.of upd_same) ?_
      have sw := same_new (o := .lst [.int 4001, .int 5000]) hw1
      have s22 := s21.trans sw
      refine for_list (xs := [.int 4001, .int 5000]) (fun i σ H' => ∃ x4 x5 x6, σ = [some (.ref a), some (.ref b), some (.int (chkR 1 rs)), some (.int (refs.length : Nat)), x4, x5, x6] ∧ H' w1 = some (.lst [.int 4001, .int 5000]) ∧ Same H H') ⟨_, _, _, rfl, upd_same, s22⟩ (fun i σ H1 _ hI => ?_) (fun i v σ H1 hv hI => ?_) (fun σ H1 hI => ?_)
      · obtain ⟨x4, x5, x6, rfl, hw, sm⟩ := hI
        exact SqL.of hw
      · obtain ⟨x4, x5, x6, rfl, hw, sm⟩ := hI
        obtain ⟨k, rfl, hk1, hk2⟩ : ∃ k : Nat, v = .int (k : Nat) ∧ 4000 < k ∧ k ≤ 5000 := by
          rcases i with _ | _ | i
          · exact ⟨4001, (Option.some.inj hv).symm, by decide, by decide⟩
          · exact ⟨5000, (Option.some.inj hv).symm, by decide, by decide⟩
          · simp at hv
        walk_at "rd"
        have nl2 : (List.replicate k 49).length = k := List.length_replicate
        have hno := ones_no hk1
        have nd2 := rep_dig k 49 (by decide)
        generalize List.replicate k 49 = O at nl2 hno nd2 ⊢
        refine rd_addS (i := [115, 116, 97, 116, 101, 32]) (j := O) (by rw [List.length_append, nl2]; show 6 + k ≤ _; omega) ?_
        walk_at "rd"
        refine rd_addS (i := [115, 116, 97, 116, 101, 32] ++ O) (j := [32, 49, 32, 50, 32] ++ [49]) (by rw [List.length_append, List.length_append, nl2]; show 6 + k + 6 ≤ _; omega) ?_
        rw [← stW_body O [49]]
        have bl2 : (bodW (stW O (SX.S [49]))).length = 6 + k + 6 := by
          rw [stW_body, SX.S_len, List.length_append, List.length_append, nl2]
          rfl
        have b10 : 10 ∉ (bodW (stW O (SX.S [49]))).cps.toList := by
          rw [stW_body]
          intro m
          rcases List.mem_append.mp m with m | m
          · rcases List.mem_append.mp m with m | m
            · simp at m
            · have := nd2 10 m; omega
          · simp at m
        generalize bodW (stW O (SX.S [49])) = B at hno bl2 b10 ⊢
        have hcB := chkL_le hc B.cps.toList
        have hcB : 0 ≤ chkS (chkR 1 rs) B ∧ chkS (chkR 1 rs) B < 1000003 := hcB
        have hlB := lineX_len (b := B) hcB.1 hcB.2
        have sp3 := splY_badR (t := []) okR (by omega) (bad_recX hcB.1 hcB.2 hno (by omega)) (lineX_free b10 hcB.1) (lineX_pos hcB.1) (by omega) (fun w hw => absurd hw List.not_mem_nil) (Nat.zero_le _)
        walk_at "rd"
        refine use_with (sm _ _ h1) hc (by omega) l2 (by omega) fun H6 s16 => ?_
        walk_at "rd"
        refine use_recoL sp3 (by rw [List.length_map]; omega) fun D3 refs3 H7 s17 hD3 eD3 hR3 => ?_
        have s27 := sm.trans (s16.trans s17)
        walk_at "rd"
        refine use_same (sm_rsR eD3 (s27 _ _ h2) okR hR3 (h3.lk (.of s27))) fun H8 s18 => ?_
        walk_at "rd"
        refine use_told86 (PaY.bad sp3 (by rw [List.length_map]; omega) (List.cons_ne_nil _ _)) fun u H9 s20 ho => ?_
        obtain ⟨D2, rfl, eD2⟩ := ho
        walk_at "rd"
        rename_i p3 hp3
        have s7 := same_new (o := .lst [.str (Str.ofString "line"), .int ((refs.length : Nat) + 1), .bl true]) hp3
        refine use_same (sm_list (s7 _ _ eD2) (by rw [List.length_map, ← hrl]; exact upd_same) (by simp [scalarV])) fun H10 s21 => ?_
        have s28 := (s16.trans (s17.trans (s18.trans (s20.trans (s7.trans s21)))))
        walk_at "rd"
        exact ⟨_, _, _, rfl, s28 _ _ hw, sm.trans s28⟩
      · obtain ⟨x4, x5, x6, rfl, hw, sm⟩ := hI
        walk_at "rd"
        exact q _ sm
    ) only [↓lt_eq]
theorem ok_law {f : Addr} {fd : FuncData} {f_pool : Addr} {fd_pool : FuncData} {f_take : Addr} {fd_take : FuncData} {f_stream : Addr} {fd_stream : FuncData} {f_same : Addr} {fd_same : FuncData} {f_told : Addr} {fd_told : FuncData} {f_recovered : Addr} {fd_recovered : FuncData} {f_bad : Addr} {fd_bad : FuncData} {f_marked : Addr} {fd_marked : FuncData} {f_lines : Addr} {fd_lines : FuncData} {f_body : Addr} {fd_body : FuncData} {f_check : Addr} {fd_check : FuncData} {f_sizes_right : Addr} {fd_sizes_right : FuncData}    (D : Dn K mg "law" s_law ["_law_script"] f fd) (bi : Bi mg) (G_pool : FnOk P w K mg base CX0 1 f_pool fd_pool ["_law_script", "_law_k"] (spPool K)) (D_pool : Dn K mg "_law_pool" s_pool ["_law_script", "_law_k"] f_pool fd_pool) (G_take : FnOk P w K mg base CX0 1 f_take fd_take ["_law_pool_here", "_law_many"] spTake) (D_take : Dn K mg "_law_take" s_take ["_law_pool_here", "_law_many"] f_take fd_take) (G_stream : FnOk P w K mg base CX0 5 f_stream fd_stream ["_law_pool_here", "_law_many"] (spStreamF kfN K)) (D_stream : Dn K mg "_law_stream" s_stream ["_law_pool_here", "_law_many"] f_stream fd_stream) (G_same : FnOk P w K mg base CX0 5 f_same fd_same ["_law_actual", "_law_due"] (spSame K 4)) (D_same : Dn K mg "_law_same" s_same ["_law_actual", "_law_due"] f_same fd_same) (G_told : FnOk P w K mg base CX0 12 f_told fd_told ["_law_value"] spTold86) (D_told : Dn K mg "_law_told" s_told ["_law_value"] f_told fd_told) (G_recovered : FnOk P w K mg base CX0 10 f_recovered fd_recovered ["_law_value"] spRecoL) (D_recovered : Dn K mg "_law_recovered" s_recovered ["_law_value"] f_recovered fd_recovered) (G_bad : FnOk P w K mg base CX0 1 f_bad fd_bad [] spBadL) (D_bad : Dn K mg "_law_bad" s_bad [] f_bad fd_bad) (G_marked : FnOk P w K mg base CX0 2 f_marked fd_marked ["_law_pool_here", "_law_body_here", "_law_check_here"] spMarked) (D_marked : Dn K mg "_law_marked" s_marked ["_law_pool_here", "_law_body_here", "_law_check_here"] f_marked fd_marked) (G_lines : FnOk P w K mg base CX0 2 f_lines fd_lines ["_law_records"] (spLines K)) (D_lines : Dn K mg "_law_lines" s_lines ["_law_records"] f_lines fd_lines) (G_body : FnOk P w K mg base CX0 1 f_body fd_body ["_law_record"] (spBody K)) (D_body : Dn K mg "_law_body" s_body ["_law_record"] f_body fd_body) (G_check : FnOk P w K mg base CX0 1 f_check fd_check ["_law_before", "_law_body_here"] spChkL) (D_check : Dn K mg "_law_check" s_check ["_law_before", "_law_body_here"] f_check fd_check) (G_sizes_right : FnOk P w K mg base CX0 13 f_sizes_right fd_sizes_right ["_law_lines_here", "_law_records", "_law_check_here"] (spSzR K)) (D_sizes_right : Dn K mg "_law_sizes_right" s_sizes_right ["_law_lines_here", "_law_records", "_law_check_here"] f_sizes_right fd_sizes_right)     : FnOk P w K mg base CX0 14 f fd ["_law_script"] (spLaw K) := by
  refine lt_out ?_
  simp (disch := with_unfolding_all
    refine D.F.ok sc_law (fun vs H Q E h => ?_) (fun cdv A outer s H vs Q E hr h => ?_)
    · obtain ⟨a, ns, rfl, _⟩ := h
      rfl
    · obtain ⟨a, ns, rfl, hS, hl, q⟩ := h
      refine ⟨_, (pss_cons (ps_for PassesOwn.never rfl (pi_range1 (by rfl) bi.range_ (pa_cons (pe_callB (cMax rfl) (by rfl) bi.max_ (by decide +kernel) (pa_cons pe_int (pa_cons (pe_callB (cMin rfl) (by rfl) bi.min_ (by decide +kernel) (pa_cons (pe_callB cLen (by rfl) bi.len_ (by decide +kernel) (pa_cons (pv 0) pa_nil)) (pa_cons pe_int pa_nil))) pa_nil))) pa_nil)) (pg_name (i := 1) sc_law.nd rfl (Or.inl rfl))
   (pss_cons (ps_set (i := 2) sc_law.nd rfl (Or.inl rfl) (pe_call G_pool (hr.mono (by first | decide | exact Nat.le_refl _)) (by rfl) D_pool.g D_pool.F.kp D_pool.b .nil pass0 (pa_cons (pv 0) (pa_cons (pv 1) pa_nil))))
   (pss_cons (ps_asg (pe_call G_stream (hr.mono (by first | decide | exact Nat.le_refl _)) (by rfl) D_stream.g D_stream.F.kp D_stream.b .nil pass0 (pa_cons (pv 2) (pa_cons (pe_call G_take (hr.mono (by first | decide | exact Nat.le_refl _)) (by rfl) D_take.g D_take.F.kp D_take.b .nil pass0 (pa_cons (pv 2) (pa_cons pe_int pa_nil))) pa_nil))) (pg_lst rfl (pgs_cons (pg_name (i := 3) sc_law.nd rfl (Or.inl rfl)) (pgs_cons (pg_name (i := 4) sc_law.nd rfl (Or.inl rfl)) (pgs_cons (pg_name (i := 5) sc_law.nd rfl (Or.inl rfl)) pgs_nil)))))
   (pss_cons (ps_par3 (i := 6) (j := 7) (l := 8) rfl sc_law.nd rfl rfl rfl (by decide) (by decide) (by decide) rfl rfl rfl (pa_cons (pe_call G_lines (hr.mono (by first | decide | exact Nat.le_refl _)) (by rfl) D_lines.g D_lines.F.kp D_lines.b .nil pass0 (pa_cons (pv 3) pa_nil)) (pa_cons pe_int (pa_cons (pe_callB cLen (by rfl) bi.len_ (by decide +kernel) (pa_cons (pv 3) pa_nil)) pa_nil))) rfl)
   (pss_cons (ps_for PassesOwn.never rfl (pi_list (pv 3)) (pg_name (i := 9) sc_law.nd rfl (Or.inl rfl))
   (pss_one (ps_set (i := 7) sc_law.nd rfl (Or.inl rfl) (pe_call G_check (hr.mono (by first | decide | exact Nat.le_refl _)) (by rfl) D_check.g D_check.F.kp D_check.b .nil pass0 (pa_cons (pv 7) (pa_cons (pe_call G_body (hr.mono (by first | decide | exact Nat.le_refl _)) (by rfl) D_body.g D_body.F.kp D_body.b .nil pass0 (pa_cons (pv 9) pa_nil)) pa_nil))))))
   (pss_cons (ps_set (i := 10) sc_law.nd rfl (Or.inl rfl) (pe_call0 G_bad (hr.mono (by first | decide | exact Nat.le_refl _)) (by rfl) D_bad.g D_bad.F.kp D_bad.b .nil pass0))
   (pss_cons (ps_set (i := 11) sc_law.nd rfl (Or.inl rfl) (pe_call G_take (hr.mono (by first | decide | exact Nat.le_refl _)) (by rfl) D_take.g D_take.F.kp D_take.b .nil pass0 (pa_cons (pv 2) (pa_cons (pe_callB cLen (by rfl) bi.len_ (by decide +kernel) (pa_cons (pv 10) pa_nil)) pa_nil))))
   (pss_cons (ps_for PassesOwn.never rfl (pi_list (pe_slice sl_list (pe_op op_cat (pe_slice sl_list (pv 10) (po_some (pv 11)) po_none) (pe_slice sl_list (pv 10) po_none (po_some (pv 11)))) po_none (po_some pe_int))) (pg_name (i := 12) sc_law.nd rfl (Or.inl rfl))
   (pss_cons (ps_set (i := 13) sc_law.nd rfl (Or.inl rfl) (pe_op op_addT (pe_op op_addT (pv 12) pe_str) (pe_callTy (show CallR _ (.type "str") _ from call_str_int) (by rfl) bi.str_ (by decide +kernel) (pa_cons (pe_call G_check (hr.mono (by first | decide | exact Nat.le_refl _)) (by rfl) D_check.g D_check.F.kp D_check.b .nil pass0 (pa_cons (pv 7) (pa_cons (pv 12) pa_nil))) pa_nil))))
   (pss_cons (ps_set (i := 14) sc_law.nd rfl (Or.inl rfl) (pe_bm PySem.F.plainAttrs_str PySem.F.slot_str_join PySem.F.type_str_join mt_joinK pe_str (pa_cons (pe_op op_cat (pv 6) (pe_lst (pa_cons (pv 13) (pa_cons pe_str pa_nil)))) pa_nil)))
   (pss_cons (ps_if (pt_not (pt_val (pe_call G_same (hr.mono (by first | decide | exact Nat.le_refl _)) (by rfl) D_same.g D_same.F.kp D_same.b .nil pass0 (pa_cons (pe_call G_recovered (hr.mono (by first | decide | exact Nat.le_refl _)) (by rfl) D_recovered.g D_recovered.F.kp D_recovered.b .nil pass0 (pa_cons (pv 14) pa_nil)) (pa_cons (pv 3) pa_nil)))))
   (pss_one (ps_ret pe_bl))
   pss_nil)
   (pss_one (ps_if (pt_not (pt_val (pe_call G_same (hr.mono (by first | decide | exact Nat.le_refl _)) (by rfl) D_same.g D_same.F.kp D_same.b .nil pass0 (pa_cons (pe_call G_told (hr.mono (by first | decide | exact Nat.le_refl _)) (by rfl) D_told.g D_told.F.kp D_told.b .nil pass0 (pa_cons (pv 14) pa_nil)) (pa_cons (pe_lst (pa_cons pe_str (pa_cons (pe_op op_add (pv 8) pe_int) (pa_cons pe_bl pa_nil)))) pa_nil)))))
   (pss_one (ps_ret pe_bl))
   pss_nil))))))
   (pss_cons (ps_asg (pe_tup (pa_cons (pe_tup (pa_cons pe_str (pa_cons (pe_tup (pa_cons (pe_tup (pa_cons pe_int (pa_cons pe_int pa_nil))) (pa_cons (pe_tup (pa_cons pe_int (pa_cons pe_int pa_nil))) pa_nil))) pa_nil))) (pa_cons (pe_tup (pa_cons pe_str (pa_cons pe_int (pa_cons (pe_tup (pa_cons pe_int (pa_cons pe_int pa_nil))) (pa_cons pe_int (pa_cons pe_int (pa_cons pe_int (pa_cons pe_str pa_nil)))))))) pa_nil))) (pg_tup rfl (pgs_cons (pg_name (i := 15) sc_law.nd rfl (Or.inl rfl)) (pgs_cons (pg_name (i := 16) sc_law.nd rfl (Or.inl rfl)) pgs_nil))))
   (pss_cons (ps_set (i := 14) sc_law.nd rfl (Or.inl rfl) (pe_bm PySem.F.plainAttrs_str PySem.F.slot_str_join PySem.F.type_str_join mt_joinK pe_str (pa_cons (pe_op op_cat (pv 6) (pe_lst (pa_cons (pe_call G_marked (hr.mono (by first | decide | exact Nat.le_refl _)) (by rfl) D_marked.g D_marked.F.kp D_marked.b .nil pass0 (pa_cons (pv 2) (pa_cons (pe_call G_body (hr.mono (by first | decide | exact Nat.le_refl _)) (by rfl) D_body.g D_body.F.kp D_body.b .nil pass0 (pa_cons (pv 15) pa_nil)) (pa_cons (pv 7) pa_nil)))) pa_nil))) pa_nil)))
   (pss_cons (ps_if (pt_not (pt_val (pe_call G_same (hr.mono (by first | decide | exact Nat.le_refl _)) (by rfl) D_same.g D_same.F.kp D_same.b .nil pass0 (pa_cons (pe_call G_recovered (hr.mono (by first | decide | exact Nat.le_refl _)) (by rfl) D_recovered.g D_recovered.F.kp D_recovered.b .nil pass0 (pa_cons (pv 14) pa_nil)) (pa_cons (pv 3) pa_nil)))))
   (pss_one (ps_ret pe_bl))
   pss_nil)
   (pss_cons (ps_if (pt_not (pt_val (pe_call G_same (hr.mono (by first | decide | exact Nat.le_refl _)) (by rfl) D_same.g D_same.F.kp D_same.b .nil pass0 (pa_cons (pe_call G_told (hr.mono (by first | decide | exact Nat.le_refl _)) (by rfl) D_told.g D_told.F.kp D_told.b .nil pass0 (pa_cons (pv 14) pa_nil)) (pa_cons (pe_lst (pa_cons pe_str (pa_cons (pe_op op_add (pv 8) pe_int) (pa_cons pe_bl pa_nil)))) pa_nil)))))
   (pss_one (ps_ret pe_bl))
   pss_nil)
   (pss_cons (ps_set (i := 14) sc_law.nd rfl (Or.inl rfl) (pe_bm PySem.F.plainAttrs_str PySem.F.slot_str_join PySem.F.type_str_join mt_joinK pe_str (pa_cons (pe_call G_lines (hr.mono (by first | decide | exact Nat.le_refl _)) (by rfl) D_lines.g D_lines.F.kp D_lines.b .nil pass0 (pa_cons (pe_op op_cat (pv 3) (pe_lst (pa_cons (pv 15) (pa_cons (pv 16) pa_nil)))) pa_nil)) pa_nil)))
   (pss_cons (ps_if (pt_not (pt_val (pe_call G_same (hr.mono (by first | decide | exact Nat.le_refl _)) (by rfl) D_same.g D_same.F.kp D_same.b .nil pass0 (pa_cons (pe_call G_recovered (hr.mono (by first | decide | exact Nat.le_refl _)) (by rfl) D_recovered.g D_recovered.F.kp D_recovered.b .nil pass0 (pa_cons (pv 14) pa_nil)) (pa_cons (pe_op op_cat (pv 3) (pe_lst (pa_cons (pv 15) (pa_cons (pv 16) pa_nil)))) pa_nil)))))
   (pss_one (ps_ret pe_bl))
   pss_nil)
   (pss_cons (ps_if (pt_not (pt_val (pe_call G_same (hr.mono (by first | decide | exact Nat.le_refl _)) (by rfl) D_same.g D_same.F.kp D_same.b .nil pass0 (pa_cons (pe_call G_told (hr.mono (by first | decide | exact Nat.le_refl _)) (by rfl) D_told.g D_told.F.kp D_told.b .nil pass0 (pa_cons (pv 14) pa_nil)) (pa_cons (pe_lst (pa_cons pe_str (pa_cons (pe_op op_add (pv 8) pe_int) (pa_cons pe_bl pa_nil)))) pa_nil)))))
   (pss_one (ps_ret pe_bl))
   pss_nil)
   (pss_one (ps_if (pt_not (pt_val (pe_call G_sizes_right (hr.mono (by first | decide | exact Nat.le_refl _)) (by rfl) D_sizes_right.g D_sizes_right.F.kp D_sizes_right.b .nil pass0 (pa_cons (pv 6) (pa_cons (pv 3) (pa_cons (pv 7) pa_nil))))))
   (pss_one (ps_ret pe_bl))
   pss_nil)))))))))))))))))
   (pss_cons (ps_for PassesOwn.never rfl (pi_list (pe_lst (pa_cons pe_non (pa_cons pe_int (pa_cons pe_bl (pa_cons (pe_lst pa_nil) (pa_cons (pe_lst (pa_cons pe_str pa_nil)) (pa_cons (pe_tup (pa_cons pe_str (pa_cons pe_str pa_nil))) pa_nil)))))))) (pg_name (i := 17) sc_law.nd rfl (Or.inl rfl))
   (pss_cons (ps_if (pt_not (pt_val (pe_call G_same (hr.mono (by first | decide | exact Nat.le_refl _)) (by rfl) D_same.g D_same.F.kp D_same.b .nil pass0 (pa_cons (pe_call G_told (hr.mono (by first | decide | exact Nat.le_refl _)) (by rfl) D_told.g D_told.F.kp D_told.b .nil pass0 (pa_cons (pv 17) pa_nil)) (pa_cons (pe_lst (pa_cons pe_str (pa_cons pe_non (pa_cons pe_bl pa_nil)))) pa_nil)))))
   (pss_one (ps_ret pe_bl))
   pss_nil)
   (pss_one (ps_if (pt_not (pt_val (pe_call G_same (hr.mono (by first | decide | exact Nat.le_refl _)) (by rfl) D_same.g D_same.F.kp D_same.b .nil pass0 (pa_cons (pe_call G_recovered (hr.mono (by first | decide | exact Nat.le_refl _)) (by rfl) D_recovered.g D_recovered.F.kp D_recovered.b .nil pass0 (pa_cons (pv 17) pa_nil)) (pa_cons (pe_lst (pa_cons pe_str (pa_cons pe_non pa_nil))) pa_nil)))))
   (pss_one (ps_ret pe_bl))
   pss_nil))))
   (pss_one (ps_ret pe_bl)))), ?_⟩
      refine rd_start (σ := [some (.ref a), none, none, none, none, none, none, none, none, none, none, none, none, none, none, none, none, none]) rfl ?_
      walk_at "rd"
      have hn := mm_nat (ns.map V.int).length 3 (by decide)
      refine for_range (lo := 0) (n := _) (fun i σ H' => ∃ x1  x2  x3  x4  x5  x6  x7  x8  x9  x10  x11  x12  x13  x14  x15  x16  x17, σ = [some (.ref a), x1, x2, x3, x4, x5, x6, x7, x8, x9, x10, x11, x12, x13, x14, x15, x16, x17] ∧ Same H H') ⟨_, _, _, _, _, _, _, _, _, _, _, _, _, _, _, _, _, rfl, by walk_at "sm"⟩ (fun i σ H1 hi hI => ?_) (fun σ H1 hI => ?_)
      · obtain ⟨x1, x2, x3, x4, x5, x6, x7, x8, x9, x10, x11, x12, x13, x14, x15, x16, x17, rfl, hs⟩ := hI
        have hi' : i < 3 := Nat.lt_of_lt_of_le hi hn
        have hS1 : SqL K H1 a (ns.map V.int) := hs.seq hS
        walk_at "rd"
        rename_i p H2 hp0 hs2 hP2 r3 H3 h30 h31 hP3 hK3
        obtain ⟨m, rfl⟩ : ∃ k : Nat, r3 = (k : Int) := ⟨r3.toNat, by omega⟩
        refine use_streamF (kf := kfN) hP3 (by omega) fun L R W B refs rws bks rs T H4 nL nR nW nB eL eR eW eB hlR hRc hRw hBk hV hP4 hK4 => ?_
        refine rd_glst (SqL.of eL) rfl ?_
        have hsA : Same H H4 := by walk_at "ct"
        have okR := hV.ok
        have hrl := hRc.len
        have nRp := hP3.ne nR
        clear hRw hBk eW eB eL
        walk_at "rd"
        refine use_lines eR hRc okR (by omega) fun N H5 hN s5 eN => ?_
        walk_at "rd"
        have eR5 := s5 _ _ eR
        have hR5 := hRc.lk (.of s5)
        have hP5 := hP4.same s5
        have nNp := hP4.ne hN
        refine rd_lpL (SqL.of eR5) ?_
        refine for_list (xs := refs) (fun j σ H' => ∃ x9 : Option V, σ = [some (.ref a), some (.int (0 + (i : Int))), some (.ref p), some (.ref R), some (.ref W), some (.ref B), some (.ref N), some (.int (chkR 1 (rs.take j))), some (.int (refs.length : Nat)), x9, x10, x11, x12, x13, x14, x15, x16, x17] ∧ Same H5 H') ⟨x9, rfl, Same.refl _⟩ (fun j σ H6 _ hI => ?_) (fun j v σ H6 hv hI => ?_) (fun σ H6 hI => ?_)
        · obtain ⟨y9, rfl, sm⟩ := hI
          exact SqL.of (sm _ _ eR5)
        · obtain ⟨y9, rfl, sm⟩ := hI
          obtain ⟨r, rr, hv2, hdr, _⟩ := hR5.get _ _ hv
          have hr : rs[j]? = some r := by
            have := congrArg (fun l => l[0]?) hdr
            simpa using this
          have okr := okR r (List.mem_of_getElem? hr)
          have hcl := chkR_le (rs.take j) 1 (by decide) (by decide)
          walk_at "rd"
          refine use_body (hv2.lk (.of sm)) okr fun H7 s7 => ?_
          walk_at "rd"
          refine use_chkL hcl ?_
          walk_at "rd"
          refine ⟨some v, ?_, sm.trans s7⟩
          rw [chkR_take 1 hr]
          rfl
        · obtain ⟨y9, rfl, sm⟩ := hI
          rw [hrl, List.take_length]
          have eR6 := sm _ _ eR5
          have hR6 := hR5.lk (.of sm)
          have eN6 := sm _ _ eN
          have hP6 := hP5.same sm
          have sA6 := hsA.trans (s5.trans sm)
          have hc := chkR_le rs 1 (by decide) (by decide)
          clear eR5 hR5 eN hP5 eR hRc hP4 s5 sm
          walk_at "rd"
          refine use_badL fun Z H7 hZ s7 eZ => ?_
          have hP7 := hP6.same s7
          have nZp := hP6.ne hZ
          walk_at "rd"
          rename_i r11 H8 h110 h111 hP8 hK8
          obtain ⟨tt, rfl⟩ : ∃ k : Nat, r11 = (k : Int) := ⟨r11.toNat, by omega⟩
          have htt : tt < 34 := by
            have : (badS.map V.str).length = 34 := rfl
            omega
          have eZ8 := hK8 _ _ nZp eZ
          have lk8 := LK.pool hP7 hK8
          have eR8 := hK8 _ _ nRp (s7 _ _ eR6)
          have hR8 := (hR6.lk (.of s7)).lk lk8
          have eN8 := hK8 _ _ nNp (s7 _ _ eN6)
          have sA8 : Same H H8 := fun b o e => hK8 b o (ne_of_none e (hs.free hp0)) (s7 _ _ (sA6 _ _ e))
          clear eR6 hR6 eN6 hP6 sA6 s7 hK8 lk8 eZ hP7
          refine rd_slGF (k := tt) (SqL.of eZ8) (by show tt ≤ 34; omega) fun q1 hq1 => ?_
          have z1 := same_new (o := .lst ((badS.map V.str).drop tt)) hq1
          walk_at "rd"
          refine rd_slGT (k := tt) (SqL.of (z1 _ _ eZ8)) fun q2 hq2 => ?_
          have z2 := same_new (o := .lst ((badS.map V.str).take tt)) hq2
          refine rd_catG (z2 _ _ upd_same) upd_same (by rw [List.length_drop, List.length_take]; show 34 - tt + min tt 34 ≤ 1000; omega) fun q3 hq3 => ?_
          have z3 := same_new (o := .lst ((badS.map V.str).drop tt ++ (badS.map V.str).take tt)) hq3
          walk_at "rd"
          refine rd_slGT (k := 9) (SqL.of upd_same) fun q4 hq4 => ?_
          have z4 := same_new (o := .lst (((badS.map V.str).drop tt ++ (badS.map V.str).take tt).take 9)) hq4
          have hX : ∀ v ∈ ((badS.map V.str).drop tt ++ (badS.map V.str).take tt).take 9, ∃ b ∈ badS, v = .str b := fun v hv => by
            have hv := List.mem_of_mem_take hv
            have hv : v ∈ badS.map V.str := by
              rcases List.mem_append.mp hv with hv | hv
              · exact List.mem_of_mem_drop hv
              · exact List.mem_of_mem_take hv
            obtain ⟨b, hb, rfl⟩ := List.mem_map.mp hv
            exact ⟨b, hb, rfl⟩
          have z14 := z1.trans (z2.trans (z3.trans z4))
          have eX := upd_same (H := upd (upd (upd H8 q1 (.lst ((badS.map V.str).drop tt))) q2 (.lst ((badS.map V.str).take tt))) q3 (.lst ((badS.map V.str).drop tt ++ (badS.map V.str).take tt))) (a := q4) (o := .lst (((badS.map V.str).drop tt ++ (badS.map V.str).take tt).take 9))
          generalize ((badS.map V.str).drop tt ++ (badS.map V.str).take tt).take 9 = XX at *
          have eR9 := z14 _ _ eR8
          have hR9 := hR8.lk (.of z14)
          have eN9 := z14 _ _ eN8
          have hP9 := hP8.same z14
          have sA9 := sA8.trans z14
          clear eR8 hR8 eN8 hP8 sA8 z1 z2 z3 z4 z14 hq1 hq2 hq3 hq4 eZ8
          walk_at "rd"
          refine rd_lpL (SqL.of eX) ?_
          generalize upd (upd (upd (upd H8 q1 (.lst ((badS.map V.str).drop tt))) q2 (.lst ((badS.map V.str).take tt))) q3 (.lst ((badS.map V.str).drop tt ++ (badS.map V.str).take tt))) q4 (.lst XX) = H9 at *
          refine for_list (xs := XX) (fun j σ H' => ∃ y12 y13 y14 : Option V, σ = [some (.ref a), some (.int (0 + (i : Int))), some (.ref p), some (.ref R), some (.ref W), some (.ref B), some (.ref N), some (.int (chkR 1 rs)), some (.int (rs.length : Nat)), y9, some (.ref Z), some (.int (tt : Nat)), y12, y13, y14, x15, x16, x17] ∧ Same H9 H') ⟨_, _, _, rfl, Same.refl _⟩ (fun j σ H6 _ hI => ?_) (fun j v σ H6 hv hI => ?_) (fun σ H6 hI => ?_)
          · obtain ⟨y12, y13, y14, rfl, sm⟩ := hI
            exact SqL.of (sm _ _ eX)
          · obtain ⟨y12, y13, y14, rfl, sm⟩ := hI
            obtain ⟨b, hb, rfl⟩ := hX v (List.mem_of_getElem? hv)
            obtain ⟨hb1, hb2, hb3⟩ := badS_ok b hb
            have hcB := chkL_le hc b.cps.toList
            have hcB : 0 ≤ chkS (chkR 1 rs) b ∧ chkS (chkR 1 rs) b < 1000003 := hcB
            have hlB := lineX_len (b := b) hcB.1 hcB.2
            have hlB2 := hlB
            unfold lineS at hlB2
            rw [Str.length_append, Str.length_append, hash_len] at hlB2
            have sp3 := splY_badR (t := [Str.ofString "state 2 1 2 1 #5"]) okR (by omega) (bad_recX hcB.1 hcB.2 hb1 (by omega)) (lineX_free hb2 hcB.1) (lineX_pos hcB.1) (by omega) st5_ok (by decide)
            walk_at "rd"
            refine rd_addX (by rw [hash_len]; omega) ?_
            walk_at "rd"
            refine use_chkL hc ?_
            walk_at "rd"
            refine ⟨_, rfl, log_le (by omega), ?_⟩
            refine rd_addX (by rw [Str.length_append, hash_len]; omega) ?_
            walk_at "rd"
            rename_i p1 hp1
            have s1 := same_new (o := .lst [.str (b ++ Str.ofString " #" ++ ((toString (chkS (chkR 1 rs) b) : String) : Str)), .str (Str.ofString "state 2 1 2 1 #5")]) hp1
            refine rd_catG (s1 _ _ (sm _ _ eN9)) upd_same (by rw [List.length_map, linesR_length]; show rs.length + 2 ≤ 1000; omega) fun p2 hp2 => ?_
            have e2 : (linesR 1 rs).map V.str ++ [.str (b ++ Str.ofString " #" ++ ((toString (chkS (chkR 1 rs) b) : String) : Str)), .str (Str.ofString "state 2 1 2 1 #5")] = (linesR 1 rs ++ [lineS b (chkS (chkR 1 rs) b), Str.ofString "state 2 1 2 1 #5"]).map V.str := by rw [List.map_append]; rfl
            rw [e2]
            have s2 := same_new (o := .lst ((linesR 1 rs ++ [lineS b (chkS (chkR 1 rs) b), Str.ofString "state 2 1 2 1 #5"]).map V.str)) hp2
            walk_at "rd"
            refine rd_joinX (SqL.of upd_same) (join_bd okR (by omega) (fun w hw => by
              rcases List.mem_cons.mp hw with rfl | hw
              · omega
              · exact Nat.le_trans (st5_ok w hw).2 (by decide)) (show 2 ≤ 3 by decide)) ?_
            walk_at "rd"
            refine use_recoL sp3 (by rw [List.length_map]; omega) fun D3 refs3 H7 s17 hD3 eD3 hR3 => ?_
            have s27 := sm.trans (s1.trans (s2.trans s17))
            walk_at "rd"
            refine use_same (sm_rsR eD3 (s27 _ _ eR9) okR hR3 (hR9.lk (.of s27))) fun H10 s18 => ?_
            walk_at "rd"
            refine use_told86 (PaY.bad sp3 (by rw [List.length_map]; omega) (List.cons_ne_nil _ _)) fun u H11 s20 ho => ?_
            obtain ⟨D2, rfl, eD2⟩ := ho
            walk_at "rd"
            rename_i p3 hp3
            have s7 := same_new (o := .lst [.str (Str.ofString "line"), .int ((rs.length : Nat) + 1), .bl true]) hp3
            refine use_same (sm_list (s7 _ _ eD2) (by rw [List.length_map]; exact upd_same) (by simp [scalarV])) fun H12 s21 => ?_
            walk_at "rd"
            exact ⟨_, _, _, rfl, s27.trans (s18.trans (s20.trans (s7.trans s21)))⟩
          · obtain ⟨y12, y13, y14, rfl, sm⟩ := hI
            have eR10 := sm _ _ eR9
            have hR10 := hR9.lk (.of sm)
            have eN10 := sm _ _ eN9
            have hP10 := hP9.same sm
            have sA10 := sA9.trans sm
            clear eR9 hR9 eN9 hP9 sA9 eX sm
            walk_at "rd"
            rename_i a1 ha1 a2 ha2 a3 ha3 a4 ha4 a5 ha5 a6 ha6 a7 ha7
            have w1 := same_new (o := .tup [.int 2, .int 1]) ha1
            have w2 := same_new (o := .tup [.int 2, .int 1]) ha2
            have w3 := same_new (o := .tup [.ref a1, .ref a2]) ha3
            have w4 := same_new (o := .tup [.str (Str.ofString "state"), .ref a3]) ha4
            have w5 := same_new (o := .tup [.int 1, .int 0]) ha5
            have w6 := same_new (o := .tup [.str (Str.ofString "frame"), .int 2, .ref a5, .int 0, .int 1, .int 961, .str (Str.ofString "000")]) ha6
            have w7 := same_new (o := .tup [.ref a4, .ref a6]) ha7
            have w67 := w6.trans w7
            have w57 := w5.trans w67
            have w47 := w4.trans w57
            have w37 := w3.trans w47
            have w27 := w2.trans w37
            have w17 := w1.trans w27
            have g6 := w7 _ _ (upd_same (a := a6) (o := .tup [.str (Str.ofString "frame"), .int 2, .ref a5, .int 0, .int 1, .int 961, .str (Str.ofString "000")]))
            have g5 := w67 _ _ (upd_same (a := a5) (o := .tup [.int 1, .int 0]))
            have g4 := w57 _ _ (upd_same (a := a4) (o := .tup [.str (Str.ofString "state"), .ref a3]))
            have g3 := w47 _ _ (upd_same (a := a3) (o := .tup [.ref a1, .ref a2]))
            have g2 := w37 _ _ (upd_same (a := a2) (o := .tup [.int 2, .int 1]))
            have g1 := w27 _ _ (upd_same (a := a1) (o := .tup [.int 2, .int 1]))
            have eR11 := w17 _ _ eR10
            have hR11 := hR10.lk (.of w17)
            have eN11 := w17 _ _ eN10
            have hP11 := hP10.same w17
            have sA11 := sA10.trans w17
            generalize upd (upd (upd (upd (upd (upd (upd H6 a1 (.tup [.int 2, .int 1])) a2 (.tup [.int 2, .int 1])) a3 (.tup [.ref a1, .ref a2])) a4 (.tup [.str (Str.ofString "state"), .ref a3])) a5 (.tup [.int 1, .int 0])) a6 (.tup [.str (Str.ofString "frame"), .int 2, .ref a5, .int 0, .int 1, .int 961, .str (Str.ofString "000")])) a7 (.tup [.ref a4, .ref a6]) = H13 at *
            clear w1 w2 w3 w4 w5 w6 w7 w67 w57 w47 w37 w27 w17 eR10 hR10 eN10 hP10 sA10 ha1 ha2 ha3 ha4 ha5 ha6 ha7
            have hSt : RcAt K H13 (.ref a4) (.st T0) := ⟨a4, a3, rfl, g4, a1, a2, .of g3, .of g1, .of g2⟩
            have hFr : RcAt K H13 (.ref a6) (.fr lsD [0, 0] T0) := ls_at g6 g5
            refine use_body hSt tk0 fun H14 s14 => ?_
            walk_at "rd"
            refine use_marked rfl (hP11.same s14) tk0 hc fun m H15 hm hP15 hK15 => ?_
            obtain ⟨hm1, hm2, hm3, hm4⟩ := hm
            have eN15 := hK15 _ _ nNp (s14 _ _ eN11)
            have eR15 := hK15 _ _ nRp (s14 _ _ eR11)
            have lk15 := (LK.of s14).trans (LK.pool (hP11.same s14) hK15)
            have hR15 := hR11.lk lk15
            have hSt15 := hSt.lk lk15
            have hFr15 := hFr.lk lk15
            have sA15 : Same H H15 := fun b o e => hK15 b o (ne_of_none e (hs.free hp0)) (s14 _ _ (sA11 _ _ e))
            have sp4 := splY_badR (t := []) okR (by omega) hm1 hm2 (by rw [SX.S_len]; exact hm4) (by rw [SX.S_len]; exact hm3) (fun w hw => absurd hw List.not_mem_nil) (Nat.zero_le _)
            clear g1 g2 g3 g4 g5 g6 hSt hFr eN11 eR11 hR11 hP11 sA11 s14 hK15 lk15
            walk_at "rd"
            rename_i p1 hp1
            have s1 := same_new (o := .lst [.str (SX.S m)]) hp1
            refine rd_catG (s1 _ _ eN15) upd_same (by rw [List.length_map, linesR_length]; show rs.length + 1 ≤ 1000; omega) fun p2 hp2 => ?_
            have e2 : (linesR 1 rs).map V.str ++ [.str (SX.S m)] = (linesR 1 rs ++ [SX.S m]).map V.str := by rw [List.map_append]; rfl
            rw [e2]
            have s2 := same_new (o := .lst ((linesR 1 rs ++ [SX.S m]).map V.str)) hp2
            walk_at "rd"
            refine rd_joinX (SqL.of upd_same) (join_bd okR (by omega) (fun w hw => by rw [List.mem_singleton.mp hw, SX.S_len]; exact hm3) (by show 1 ≤ 3; decide)) ?_
            walk_at "rd"
            refine use_recoL sp4 (by rw [List.length_map]; omega) fun D3 refs3 H16 s17 hD3 eD3 hR3 => ?_
            have s27 := s1.trans (s2.trans s17)
            walk_at "rd"
            refine use_same (sm_rsR eD3 (s27 _ _ eR15) okR hR3 (hR15.lk (.of s27))) fun H17 s18 => ?_
            walk_at "rd"
            refine use_told86 (PaY.bad sp4 (by rw [List.length_map]; omega) (List.cons_ne_nil _ _)) fun u H18 s20 ho => ?_
            obtain ⟨D2, rfl, eD2⟩ := ho
            walk_at "rd"
            rename_i p3 hp3
            have s7 := same_new (o := .lst [.str (Str.ofString "line"), .int ((rs.length : Nat) + 1), .bl true]) hp3
            refine use_same (sm_list (s7 _ _ eD2) (by rw [List.length_map]; exact upd_same) (by simp [scalarV])) fun H19 s21 => ?_
            have sB := s27.trans (s18.trans (s20.trans (s7.trans s21)))
            have eN19 := sB _ _ eN15
            have eR19 := sB _ _ eR15
            have hR19 := hR15.lk (.of sB)
            have hSt19 := hSt15.lk (.of sB)
            have hFr19 := hFr15.lk (.of sB)
            have hP19 := hP15.same sB
            have sA19 := sA15.trans sB
            clear eN15 eR15 hR15 hSt15 hFr15 hP15 sA15 sB s27 s18 s20 s7 s21 s1 s2 s17 eD2 eD3 hR3 hD3
            walk_at "rd"
            rename_i p4 hp4
            have s1 := same_new (o := .lst [.ref a4, .ref a6]) hp4
            refine rd_catG (s1 _ _ eR19) upd_same (by show refs.length + 2 ≤ 1000; omega) fun p5 hp5 => ?_
            have s2 := same_new (o := .lst (refs ++ [.ref a4, .ref a6])) hp5
            have s12 := s1.trans s2
            have hV2 := ls_vd hV
            have hR20 : RcsAt K _ (refs ++ [.ref a4, .ref a6]) (rs ++ lsR) := All2.appN (hR19.lk (.of s12)) (.cons (hSt19.lk (.of s12)) (.cons (hFr19.lk (.of s12)) .nil))
            have hl2 : (rs ++ lsR).length = rs.length + 2 := by rw [List.length_append]; rfl
            walk_at "rd"
            refine use_lines upd_same hR20 hV2.ok (by rw [List.length_append]; show refs.length + 2 ≤ 40; omega) fun M H21 hM s21 eM => ?_
            have sp5 := splY_rs hV2.ok (by omega) (by rw [← List.length_pos_iff]; omega)
            walk_at "rd"
            refine rd_joinX (SqL.of eM) (join_fit hV2.ok (by omega)) ?_
            walk_at "rd"
            refine use_recoL sp5 (by rw [List.length_map]; omega) fun D3 refs3 H22 s22 hD3 eD3 hR3 => ?_
            have s1222 := s12.trans (s21.trans s22)
            walk_at "rd"
            rename_i p6 hp6
            have s3 := same_new (o := .lst [.ref a4, .ref a6]) hp6
            refine rd_catG (s3 _ _ (s1222 _ _ eR19)) upd_same (by show refs.length + 2 ≤ 1000; omega) fun p7 hp7 => ?_
            have s4 := same_new (o := .lst (refs ++ [.ref a4, .ref a6])) hp7
            have s34 := s3.trans s4
            walk_at "rd"
            refine use_same (sm_rsR (s34 _ _ eD3) upd_same hV2.ok (RsSh.same s34 hR3) (hR20.lk (.of ((s21.trans s22).trans s34)))) fun H23 s23 => ?_
            have s124 := s1222.trans (s34.trans s23)
            obtain ⟨f, hf1, hf2⟩ := ls_last rs 0 0 (0, 0)
            rw [Nat.zero_add] at hf2
            walk_at "rd"
            refine use_told86 (PaY.last sp5 (by omega) hV2 (by decide) hf1) fun u H24 s24 ho => ?_
            obtain ⟨D2, rfl, eD2⟩ := ho
            walk_at "rd"
            rename_i p8 hp8
            have s7 := same_new (o := .lst [.str (Str.ofString "record"), .int ((rs.length : Nat) + 1), .bl true]) hp8
            refine use_same (sm_list (s7 _ _ eD2) (by rw [hf2]; exact upd_same) (by simp [scalarV])) fun H25 s25 => ?_
            have s126 := s124.trans (s24.trans (s7.trans s25))
            walk_at "rd"
            refine use_szR (s126 _ _ eN19) (s126 _ _ eR19) (hR19.lk (.of s126)) hV (by omega) fun H26 s26 => ?_
            walk_at "rd"
            exact ⟨_, _, _, _, _, _, _, _, _, _, _, _, _, _, _, _, _, rfl, sA19.trans (s126.trans s26)⟩
      · obtain ⟨x1, x2, x3, x4, x5, x6, x7, x8, x9, x10, x11, x12, x13, x14, x15, x16, x17, rfl, hs⟩ := hI
        walk_at "rd"
        rename_i e1 he1 e2 he2 e3 he3 V0 hV0
        have t1 := same_new (o := .lst []) he1
        have t2 := same_new (o := .lst [.str (Str.ofString "state 2 1 2 1")]) he2
        have t3 := same_new (o := .tup [.str (Str.ofString "a"), .str (Str.ofString "b")]) he3
        have t4 := same_new (o := .lst [.non, .int 5, .bl true, .ref e1, .ref e2, .ref e3]) hV0
        have f1 := (t2.trans (t3.trans t4)) _ _ (upd_same (a := e1) (o := .lst []))
        have f2 := (t3.trans t4) _ _ (upd_same (a := e2) (o := .lst [.str (Str.ofString "state 2 1 2 1")]))
        have f3 := t4 _ _ (upd_same (a := e3) (o := .tup [.str (Str.ofString "a"), .str (Str.ofString "b")]))
        have f4 : (upd (upd (upd (upd H1 e1 (.lst [])) e2 (.lst [.str (Str.ofString "state 2 1 2 1")])) e3 (.tup [.str (Str.ofString "a"), .str (Str.ofString "b")])) V0 (.lst [.non, .int 5, .bl true, .ref e1, .ref e2, .ref e3])) V0 = some (.lst [.non, .int 5, .bl true, .ref e1, .ref e2, .ref e3]) := upd_same
        refine rd_lpL (SqL.of f4) ?_
        generalize upd (upd (upd (upd H1 e1 (.lst [])) e2 (.lst [.str (Str.ofString "state 2 1 2 1")])) e3 (.tup [.str (Str.ofString "a"), .str (Str.ofString "b")])) V0 (.lst [.non, .int 5, .bl true, .ref e1, .ref e2, .ref e3]) = HV at f1 f2 f3 f4 ⊢
        have hno : ∀ (i : Nat) (v : V), ([.non, .int 5, .bl true, .ref e1, .ref e2, .ref e3] : List V)[i]? = some v → NoStr HV v := fun i v hv => by
          rcases i with _ | _ | _ | _ | _ | _ | i
          · cases hv; exact ⟨trivial, fun s z => by cases z⟩
          · cases hv; exact ⟨trivial, fun s z => by cases z⟩
          · cases hv; exact ⟨trivial, fun s z => by cases z⟩
          · cases hv; exact ⟨.inl ⟨_, f1⟩, fun s z => by cases z⟩
          · cases hv; exact ⟨.inl ⟨_, f2⟩, fun s z => by cases z⟩
          · cases hv; exact ⟨.inr ⟨_, f3⟩, fun s z => by cases z⟩
          · simp at hv
        refine for_list (xs := [.non, .int 5, .bl true, .ref e1, .ref e2, .ref e3]) (fun j σ H' => ∃ x17 : Option V, σ = [some (.ref a), x1, x2, x3, x4, x5, x6, x7, x8, x9, x10, x11, x12, x13, x14, x15, x16, x17] ∧ Same HV H') ⟨x17, rfl, Same.refl _⟩ (fun j σ H6 _ hI => ?_) (fun j v σ H6 hv hI => ?_) (fun σ H6 hI => ?_)
        · obtain ⟨y17, rfl, sm⟩ := hI
          exact SqL.of (sm _ _ f4)
        · obtain ⟨y17, rfl, sm⟩ := hI
          have hN := hno j v hv
          walk_at "rd"
          refine use_told86 (PaY.odd ⟨tyv_same sm hN.1, hN.2⟩) fun u H9 s20 ho => ?_
          obtain ⟨D2, rfl, eD2⟩ := ho
          walk_at "rd"
          rename_i p3 hp3
          have s7 := same_new (o := .lst [.str (Str.ofString "line"), .non, .bl true]) hp3
          refine use_same (sm_list (s7 _ _ eD2) upd_same (by simp [scalarV])) fun H10 s21 => ?_
          have s28 := sm.trans (s20.trans (s7.trans s21))
          walk_at "rd"
          refine use_recoN ⟨tyv_same s28 hN.1, hN.2⟩ fun D3 H11 s22 eD3 => ?_
          walk_at "rd"
          rename_i p4 hp4
          have s8 := same_new (o := .lst [.str (Str.ofString "line"), .non]) hp4
          refine use_same (sm_list (s8 _ _ eD3) upd_same (by simp [scalarV])) fun H12 s23 => ?_
          walk_at "rd"
          exact ⟨_, rfl, s28.trans (s22.trans (s8.trans s23))⟩
        · obtain ⟨y17, rfl, sm⟩ := hI
          walk_at "rd"
          exact q _
    ) only [↓lt_eq]
end
theorem mkD_is_integer {K : PySem.W.Frag} {h : Heap} {mg : Str → Option Value} (X : K.In h) (G : h.Ns mainGlobals mg) {f : Addr} {od an : Option Addr} {sl : Array (Option Value)} {oc kV dc pm cd ct : Value} (a : PySem.W.nsIn K mainGlobals "is_integer" = some (some (.ref f))) (lk : K.lookup f = some ⟨oc, od, .func (PySem.W.fnOf "is_integer" "is_integer" (defArgs s_is_integer) (defBody s_is_integer) (defScope s_is_integer) .none kV dc pm an cd ct), sl⟩) (c : PySem.W.codeIn K cd "is_integer" = true) (k : PySem.W.keepIn K (.ref f) = true) : Dn K mg "is_integer" s_is_integer ["value"] f (PySem.W.fnOf "is_integer" "is_integer" (defArgs s_is_integer) (defBody s_is_integer) (defScope s_is_integer) .none kV dc pm an cd ct) := by
  have F := fun_mk (st := s_is_integer) lk c k
  exact ⟨F, PySem.W.mg_of X G a, F.binds (ps := ["value"]) fun _ _ _ _ _ _ us hl => match us, hl with | [_], _ => rfl⟩
theorem mkD_is_within {K : PySem.W.Frag} {h : Heap} {mg : Str → Option Value} (X : K.In h) (G : h.Ns mainGlobals mg) {f : Addr} {od an : Option Addr} {sl : Array (Option Value)} {oc kV dc pm cd ct : Value} (a : PySem.W.nsIn K mainGlobals "is_within" = some (some (.ref f))) (lk : K.lookup f = some ⟨oc, od, .func (PySem.W.fnOf "is_within" "is_within" (defArgs s_is_within) (defBody s_is_within) (defScope s_is_within) .none kV dc pm an cd ct), sl⟩) (c : PySem.W.codeIn K cd "is_within" = true) (k : PySem.W.keepIn K (.ref f) = true) : Dn K mg "is_within" s_is_within ["value", "low", "high"] f (PySem.W.fnOf "is_within" "is_within" (defArgs s_is_within) (defBody s_is_within) (defScope s_is_within) .none kV dc pm an cd ct) := by
  have F := fun_mk (st := s_is_within) lk c k
  exact ⟨F, PySem.W.mg_of X G a, F.binds (ps := ["value", "low", "high"]) fun _ _ _ _ _ _ us hl => match us, hl with | [_, _, _], _ => rfl⟩
theorem mkD_check_integer {K : PySem.W.Frag} {h : Heap} {mg : Str → Option Value} (X : K.In h) (G : h.Ns mainGlobals mg) {f : Addr} {od an : Option Addr} {sl : Array (Option Value)} {oc kV dc pm cd ct : Value} (a : PySem.W.nsIn K mainGlobals "check_integer" = some (some (.ref f))) (lk : K.lookup f = some ⟨oc, od, .func (PySem.W.fnOf "check_integer" "check_integer" (defArgs s_check_integer) (defBody s_check_integer) (defScope s_check_integer) .none kV dc pm an cd ct), sl⟩) (c : PySem.W.codeIn K cd "check_integer" = true) (k : PySem.W.keepIn K (.ref f) = true) : Dn K mg "check_integer" s_check_integer ["value"] f (PySem.W.fnOf "check_integer" "check_integer" (defArgs s_check_integer) (defBody s_check_integer) (defScope s_check_integer) .none kV dc pm an cd ct) := by
  have F := fun_mk (st := s_check_integer) lk c k
  exact ⟨F, PySem.W.mg_of X G a, F.binds (ps := ["value"]) fun _ _ _ _ _ _ us hl => match us, hl with | [_], _ => rfl⟩
theorem mkD_check_within {K : PySem.W.Frag} {h : Heap} {mg : Str → Option Value} (X : K.In h) (G : h.Ns mainGlobals mg) {f : Addr} {od an : Option Addr} {sl : Array (Option Value)} {oc kV dc pm cd ct : Value} (a : PySem.W.nsIn K mainGlobals "check_within" = some (some (.ref f))) (lk : K.lookup f = some ⟨oc, od, .func (PySem.W.fnOf "check_within" "check_within" (defArgs s_check_within) (defBody s_check_within) (defScope s_check_within) .none kV dc pm an cd ct), sl⟩) (c : PySem.W.codeIn K cd "check_within" = true) (k : PySem.W.keepIn K (.ref f) = true) : Dn K mg "check_within" s_check_within ["value", "low", "high"] f (PySem.W.fnOf "check_within" "check_within" (defArgs s_check_within) (defBody s_check_within) (defScope s_check_within) .none kV dc pm an cd ct) := by
  have F := fun_mk (st := s_check_within) lk c k
  exact ⟨F, PySem.W.mg_of X G a, F.binds (ps := ["value", "low", "high"]) fun _ _ _ _ _ _ us hl => match us, hl with | [_, _, _], _ => rfl⟩
theorem mkD_check_items {K : PySem.W.Frag} {h : Heap} {mg : Str → Option Value} (X : K.In h) (G : h.Ns mainGlobals mg) {f : Addr} {od an : Option Addr} {sl : Array (Option Value)} {oc kV dc pm cd ct : Value} (a : PySem.W.nsIn K mainGlobals "check_items" = some (some (.ref f))) (lk : K.lookup f = some ⟨oc, od, .func (PySem.W.fnOf "check_items" "check_items" (defArgs s_check_items) (defBody s_check_items) (defScope s_check_items) .none kV dc pm an cd ct), sl⟩) (c : PySem.W.codeIn K cd "check_items" = true) (k : PySem.W.keepIn K (.ref f) = true) : Dn K mg "check_items" s_check_items ["values"] f (PySem.W.fnOf "check_items" "check_items" (defArgs s_check_items) (defBody s_check_items) (defScope s_check_items) .none kV dc pm an cd ct) := by
  have F := fun_mk (st := s_check_items) lk c k
  exact ⟨F, PySem.W.mg_of X G a, F.binds (ps := ["values"]) fun _ _ _ _ _ _ us hl => match us, hl with | [_], _ => rfl⟩
theorem mkD_check_block {K : PySem.W.Frag} {h : Heap} {mg : Str → Option Value} (X : K.In h) (G : h.Ns mainGlobals mg) {f : Addr} {od an : Option Addr} {sl : Array (Option Value)} {oc kV dc pm cd ct : Value} (a : PySem.W.nsIn K mainGlobals "check_block" = some (some (.ref f))) (lk : K.lookup f = some ⟨oc, od, .func (PySem.W.fnOf "check_block" "check_block" (defArgs s_check_block) (defBody s_check_block) (defScope s_check_block) .none kV dc pm an cd ct), sl⟩) (c : PySem.W.codeIn K cd "check_block" = true) (k : PySem.W.keepIn K (.ref f) = true) : Dn K mg "check_block" s_check_block ["values", "least"] f (PySem.W.fnOf "check_block" "check_block" (defArgs s_check_block) (defBody s_check_block) (defScope s_check_block) .none kV dc pm an cd ct) := by
  have F := fun_mk (st := s_check_block) lk c k
  exact ⟨F, PySem.W.mg_of X G a, F.binds (ps := ["values", "least"]) fun _ _ _ _ _ _ us hl => match us, hl with | [_, _], _ => rfl⟩
theorem mkD_is_joint {K : PySem.W.Frag} {h : Heap} {mg : Str → Option Value} (X : K.In h) (G : h.Ns mainGlobals mg) {f : Addr} {od an : Option Addr} {sl : Array (Option Value)} {oc kV dc pm cd ct : Value} (a : PySem.W.nsIn K mainGlobals "is_joint" = some (some (.ref f))) (lk : K.lookup f = some ⟨oc, od, .func (PySem.W.fnOf "is_joint" "is_joint" (defArgs s_is_joint) (defBody s_is_joint) (defScope s_is_joint) .none kV dc pm an cd ct), sl⟩) (c : PySem.W.codeIn K cd "is_joint" = true) (k : PySem.W.keepIn K (.ref f) = true) : Dn K mg "is_joint" s_is_joint ["value"] f (PySem.W.fnOf "is_joint" "is_joint" (defArgs s_is_joint) (defBody s_is_joint) (defScope s_is_joint) .none kV dc pm an cd ct) := by
  have F := fun_mk (st := s_is_joint) lk c k
  exact ⟨F, PySem.W.mg_of X G a, F.binds (ps := ["value"]) fun _ _ _ _ _ _ us hl => match us, hl with | [_], _ => rfl⟩
theorem mkD_coarse_count {K : PySem.W.Frag} {h : Heap} {mg : Str → Option Value} (X : K.In h) (G : h.Ns mainGlobals mg) {f : Addr} {od an : Option Addr} {sl : Array (Option Value)} {oc kV dc pm cd ct : Value} (a : PySem.W.nsIn K mainGlobals "coarse_count" = some (some (.ref f))) (lk : K.lookup f = some ⟨oc, od, .func (PySem.W.fnOf "coarse_count" "coarse_count" (defArgs s_coarse_count) (defBody s_coarse_count) (defScope s_coarse_count) .none kV dc pm an cd ct), sl⟩) (c : PySem.W.codeIn K cd "coarse_count" = true) (k : PySem.W.keepIn K (.ref f) = true) : Dn K mg "coarse_count" s_coarse_count ["length", "levels"] f (PySem.W.fnOf "coarse_count" "coarse_count" (defArgs s_coarse_count) (defBody s_coarse_count) (defScope s_coarse_count) .none kV dc pm an cd ct) := by
  have F := fun_mk (st := s_coarse_count) lk c k
  exact ⟨F, PySem.W.mg_of X G a, F.binds (ps := ["length", "levels"]) fun _ _ _ _ _ _ us hl => match us, hl with | [_, _], _ => rfl⟩
theorem mkD_is_table {K : PySem.W.Frag} {h : Heap} {mg : Str → Option Value} (X : K.In h) (G : h.Ns mainGlobals mg) {f : Addr} {od an : Option Addr} {sl : Array (Option Value)} {oc kV dc pm cd ct : Value} (a : PySem.W.nsIn K mainGlobals "is_table" = some (some (.ref f))) (lk : K.lookup f = some ⟨oc, od, .func (PySem.W.fnOf "is_table" "is_table" (defArgs s_is_table) (defBody s_is_table) (defScope s_is_table) .none kV dc pm an cd ct), sl⟩) (c : PySem.W.codeIn K cd "is_table" = true) (k : PySem.W.keepIn K (.ref f) = true) : Dn K mg "is_table" s_is_table ["value"] f (PySem.W.fnOf "is_table" "is_table" (defArgs s_is_table) (defBody s_is_table) (defScope s_is_table) .none kV dc pm an cd ct) := by
  have F := fun_mk (st := s_is_table) lk c k
  exact ⟨F, PySem.W.mg_of X G a, F.binds (ps := ["value"]) fun _ _ _ _ _ _ us hl => match us, hl with | [_], _ => rfl⟩
theorem mkD_is_tables {K : PySem.W.Frag} {h : Heap} {mg : Str → Option Value} (X : K.In h) (G : h.Ns mainGlobals mg) {f : Addr} {od an : Option Addr} {sl : Array (Option Value)} {oc kV dc pm cd ct : Value} (a : PySem.W.nsIn K mainGlobals "is_tables" = some (some (.ref f))) (lk : K.lookup f = some ⟨oc, od, .func (PySem.W.fnOf "is_tables" "is_tables" (defArgs s_is_tables) (defBody s_is_tables) (defScope s_is_tables) .none kV dc pm an cd ct), sl⟩) (c : PySem.W.codeIn K cd "is_tables" = true) (k : PySem.W.keepIn K (.ref f) = true) : Dn K mg "is_tables" s_is_tables ["value"] f (PySem.W.fnOf "is_tables" "is_tables" (defArgs s_is_tables) (defBody s_is_tables) (defScope s_is_tables) .none kV dc pm an cd ct) := by
  have F := fun_mk (st := s_is_tables) lk c k
  exact ⟨F, PySem.W.mg_of X G a, F.binds (ps := ["value"]) fun _ _ _ _ _ _ us hl => match us, hl with | [_], _ => rfl⟩
theorem mkD_parameter {K : PySem.W.Frag} {h : Heap} {mg : Str → Option Value} (X : K.In h) (G : h.Ns mainGlobals mg) {f : Addr} {od an : Option Addr} {sl : Array (Option Value)} {oc kV dc pm cd ct : Value} (a : PySem.W.nsIn K mainGlobals "parameter" = some (some (.ref f))) (lk : K.lookup f = some ⟨oc, od, .func (PySem.W.fnOf "parameter" "parameter" (defArgs s_parameter) (defBody s_parameter) (defScope s_parameter) .none kV dc pm an cd ct), sl⟩) (c : PySem.W.codeIn K cd "parameter" = true) (k : PySem.W.keepIn K (.ref f) = true) : Dn K mg "parameter" s_parameter ["table"] f (PySem.W.fnOf "parameter" "parameter" (defArgs s_parameter) (defBody s_parameter) (defScope s_parameter) .none kV dc pm an cd ct) := by
  have F := fun_mk (st := s_parameter) lk c k
  exact ⟨F, PySem.W.mg_of X G a, F.binds (ps := ["table"]) fun _ _ _ _ _ _ us hl => match us, hl with | [_], _ => rfl⟩
theorem mkD_table_behind {K : PySem.W.Frag} {h : Heap} {mg : Str → Option Value} (X : K.In h) (G : h.Ns mainGlobals mg) {f : Addr} {od an : Option Addr} {sl : Array (Option Value)} {oc kV dc pm cd ct : Value} (a : PySem.W.nsIn K mainGlobals "table_behind" = some (some (.ref f))) (lk : K.lookup f = some ⟨oc, od, .func (PySem.W.fnOf "table_behind" "table_behind" (defArgs s_table_behind) (defBody s_table_behind) (defScope s_table_behind) .none kV dc pm an cd ct), sl⟩) (c : PySem.W.codeIn K cd "table_behind" = true) (k : PySem.W.keepIn K (.ref f) = true) : Dn K mg "table_behind" s_table_behind ["table", "code"] f (PySem.W.fnOf "table_behind" "table_behind" (defArgs s_table_behind) (defBody s_table_behind) (defScope s_table_behind) .none kV dc pm an cd ct) := by
  have F := fun_mk (st := s_table_behind) lk c k
  exact ⟨F, PySem.W.mg_of X G a, F.binds (ps := ["table", "code"]) fun _ _ _ _ _ _ us hl => match us, hl with | [_, _], _ => rfl⟩
theorem mkD_code_number {K : PySem.W.Frag} {h : Heap} {mg : Str → Option Value} (X : K.In h) (G : h.Ns mainGlobals mg) {f : Addr} {od an : Option Addr} {sl : Array (Option Value)} {oc kV dc pm cd ct : Value} (a : PySem.W.nsIn K mainGlobals "code_number" = some (some (.ref f))) (lk : K.lookup f = some ⟨oc, od, .func (PySem.W.fnOf "code_number" "code_number" (defArgs s_code_number) (defBody s_code_number) (defScope s_code_number) .none kV dc pm an cd ct), sl⟩) (c : PySem.W.codeIn K cd "code_number" = true) (k : PySem.W.keepIn K (.ref f) = true) : Dn K mg "code_number" s_code_number ["number"] f (PySem.W.fnOf "code_number" "code_number" (defArgs s_code_number) (defBody s_code_number) (defScope s_code_number) .none kV dc pm an cd ct) := by
  have F := fun_mk (st := s_code_number) lk c k
  exact ⟨F, PySem.W.mg_of X G a, F.binds (ps := ["number"]) fun _ _ _ _ _ _ us hl => match us, hl with | [_], _ => rfl⟩
theorem mkD_number_with {K : PySem.W.Frag} {h : Heap} {mg : Str → Option Value} (X : K.In h) (G : h.Ns mainGlobals mg) {f : Addr} {od an : Option Addr} {sl : Array (Option Value)} {oc kV dc pm cd ct : Value} (a : PySem.W.nsIn K mainGlobals "number_with" = some (some (.ref f))) (lk : K.lookup f = some ⟨oc, od, .func (PySem.W.fnOf "number_with" "number_with" (defArgs s_number_with) (defBody s_number_with) (defScope s_number_with) .none kV dc pm an cd ct), sl⟩) (c : PySem.W.codeIn K cd "number_with" = true) (k : PySem.W.keepIn K (.ref f) = true) : Dn K mg "number_with" s_number_with ["code"] f (PySem.W.fnOf "number_with" "number_with" (defArgs s_number_with) (defBody s_number_with) (defScope s_number_with) .none kV dc pm an cd ct) := by
  have F := fun_mk (st := s_number_with) lk c k
  exact ⟨F, PySem.W.mg_of X G a, F.binds (ps := ["code"]) fun _ _ _ _ _ _ us hl => match us, hl with | [_], _ => rfl⟩
theorem mkD_read_numbers {K : PySem.W.Frag} {h : Heap} {mg : Str → Option Value} (X : K.In h) (G : h.Ns mainGlobals mg) {f : Addr} {od an : Option Addr} {sl : Array (Option Value)} {oc kV dc pm cd ct : Value} (a : PySem.W.nsIn K mainGlobals "read_numbers" = some (some (.ref f))) (lk : K.lookup f = some ⟨oc, od, .func (PySem.W.fnOf "read_numbers" "read_numbers" (defArgs s_read_numbers) (defBody s_read_numbers) (defScope s_read_numbers) .none kV dc pm an cd ct), sl⟩) (c : PySem.W.codeIn K cd "read_numbers" = true) (k : PySem.W.keepIn K (.ref f) = true) : Dn K mg "read_numbers" s_read_numbers ["bits", "length", "coarse", "tables"] f (PySem.W.fnOf "read_numbers" "read_numbers" (defArgs s_read_numbers) (defBody s_read_numbers) (defScope s_read_numbers) .none kV dc pm an cd ct) := by
  have F := fun_mk (st := s_read_numbers) lk c k
  exact ⟨F, PySem.W.mg_of X G a, F.binds (ps := ["bits", "length", "coarse", "tables"]) fun _ _ _ _ _ _ us hl => match us, hl with | [_, _, _, _], _ => rfl⟩
theorem mkD_check_coding {K : PySem.W.Frag} {h : Heap} {mg : Str → Option Value} (X : K.In h) (G : h.Ns mainGlobals mg) {f : Addr} {od an : Option Addr} {sl : Array (Option Value)} {oc kV dc pm cd ct : Value} (a : PySem.W.nsIn K mainGlobals "check_coding" = some (some (.ref f))) (lk : K.lookup f = some ⟨oc, od, .func (PySem.W.fnOf "check_coding" "check_coding" (defArgs s_check_coding) (defBody s_check_coding) (defScope s_check_coding) .none kV dc pm an cd ct), sl⟩) (c : PySem.W.codeIn K cd "check_coding" = true) (k : PySem.W.keepIn K (.ref f) = true) : Dn K mg "check_coding" s_check_coding ["length", "coarse", "tables"] f (PySem.W.fnOf "check_coding" "check_coding" (defArgs s_check_coding) (defBody s_check_coding) (defScope s_check_coding) .none kV dc pm an cd ct) := by
  have F := fun_mk (st := s_check_coding) lk c k
  exact ⟨F, PySem.W.mg_of X G a, F.binds (ps := ["length", "coarse", "tables"]) fun _ _ _ _ _ _ us hl => match us, hl with | [_, _, _], _ => rfl⟩
theorem mkD_read_code {K : PySem.W.Frag} {h : Heap} {mg : Str → Option Value} (X : K.In h) (G : h.Ns mainGlobals mg) {f : Addr} {od an : Option Addr} {sl : Array (Option Value)} {oc kV dc pm cd ct : Value} (a : PySem.W.nsIn K mainGlobals "read_code" = some (some (.ref f))) (lk : K.lookup f = some ⟨oc, od, .func (PySem.W.fnOf "read_code" "read_code" (defArgs s_read_code) (defBody s_read_code) (defScope s_read_code) .none kV dc pm an cd ct), sl⟩) (c : PySem.W.codeIn K cd "read_code" = true) (k : PySem.W.keepIn K (.ref f) = true) : Dn K mg "read_code" s_read_code ["bits", "place", "k"] f (PySem.W.fnOf "read_code" "read_code" (defArgs s_read_code) (defBody s_read_code) (defScope s_read_code) .none kV dc pm an cd ct) := by
  have F := fun_mk (st := s_read_code) lk c k
  exact ⟨F, PySem.W.mg_of X G a, F.binds (ps := ["bits", "place", "k"]) fun _ _ _ _ _ _ us hl => match us, hl with | [_, _, _], _ => rfl⟩
theorem mkD_mark_of {K : PySem.W.Frag} {h : Heap} {mg : Str → Option Value} (X : K.In h) (G : h.Ns mainGlobals mg) {f : Addr} {od an : Option Addr} {sl : Array (Option Value)} {oc kV dc pm cd ct : Value} (a : PySem.W.nsIn K mainGlobals "mark_of" = some (some (.ref f))) (lk : K.lookup f = some ⟨oc, od, .func (PySem.W.fnOf "mark_of" "mark_of" (defArgs s_mark_of) (defBody s_mark_of) (defScope s_mark_of) .none kV dc pm an cd ct), sl⟩) (c : PySem.W.codeIn K cd "mark_of" = true) (k : PySem.W.keepIn K (.ref f) = true) : Dn K mg "mark_of" s_mark_of ["numbers"] f (PySem.W.fnOf "mark_of" "mark_of" (defArgs s_mark_of) (defBody s_mark_of) (defScope s_mark_of) .none kV dc pm an cd ct) := by
  have F := fun_mk (st := s_mark_of) lk c k
  exact ⟨F, PySem.W.mg_of X G a, F.binds (ps := ["numbers"]) fun _ _ _ _ _ _ us hl => match us, hl with | [_], _ => rfl⟩
theorem mkD_is_record {K : PySem.W.Frag} {h : Heap} {mg : Str → Option Value} (X : K.In h) (G : h.Ns mainGlobals mg) {f : Addr} {od an : Option Addr} {sl : Array (Option Value)} {oc kV dc pm cd ct : Value} (a : PySem.W.nsIn K mainGlobals "is_record" = some (some (.ref f))) (lk : K.lookup f = some ⟨oc, od, .func (PySem.W.fnOf "is_record" "is_record" (defArgs s_is_record) (defBody s_is_record) (defScope s_is_record) .none kV dc pm an cd ct), sl⟩) (c : PySem.W.codeIn K cd "is_record" = true) (k : PySem.W.keepIn K (.ref f) = true) : Dn K mg "is_record" s_is_record ["value"] f (PySem.W.fnOf "is_record" "is_record" (defArgs s_is_record) (defBody s_is_record) (defScope s_is_record) .none kV dc pm an cd ct) := by
  have F := fun_mk (st := s_is_record) lk c k
  exact ⟨F, PySem.W.mg_of X G a, F.binds (ps := ["value"]) fun _ _ _ _ _ _ us hl => match us, hl with | [_], _ => rfl⟩
theorem mkD_is_state {K : PySem.W.Frag} {h : Heap} {mg : Str → Option Value} (X : K.In h) (G : h.Ns mainGlobals mg) {f : Addr} {od an : Option Addr} {sl : Array (Option Value)} {oc kV dc pm cd ct : Value} (a : PySem.W.nsIn K mainGlobals "is_state" = some (some (.ref f))) (lk : K.lookup f = some ⟨oc, od, .func (PySem.W.fnOf "is_state" "is_state" (defArgs s_is_state) (defBody s_is_state) (defScope s_is_state) .none kV dc pm an cd ct), sl⟩) (c : PySem.W.codeIn K cd "is_state" = true) (k : PySem.W.keepIn K (.ref f) = true) : Dn K mg "is_state" s_is_state ["value"] f (PySem.W.fnOf "is_state" "is_state" (defArgs s_is_state) (defBody s_is_state) (defScope s_is_state) .none kV dc pm an cd ct) := by
  have F := fun_mk (st := s_is_state) lk c k
  exact ⟨F, PySem.W.mg_of X G a, F.binds (ps := ["value"]) fun _ _ _ _ _ _ us hl => match us, hl with | [_], _ => rfl⟩
theorem mkD_is_frame {K : PySem.W.Frag} {h : Heap} {mg : Str → Option Value} (X : K.In h) (G : h.Ns mainGlobals mg) {f : Addr} {od an : Option Addr} {sl : Array (Option Value)} {oc kV dc pm cd ct : Value} (a : PySem.W.nsIn K mainGlobals "is_frame" = some (some (.ref f))) (lk : K.lookup f = some ⟨oc, od, .func (PySem.W.fnOf "is_frame" "is_frame" (defArgs s_is_frame) (defBody s_is_frame) (defScope s_is_frame) .none kV dc pm an cd ct), sl⟩) (c : PySem.W.codeIn K cd "is_frame" = true) (k : PySem.W.keepIn K (.ref f) = true) : Dn K mg "is_frame" s_is_frame ["value"] f (PySem.W.fnOf "is_frame" "is_frame" (defArgs s_is_frame) (defBody s_is_frame) (defScope s_is_frame) .none kV dc pm an cd ct) := by
  have F := fun_mk (st := s_is_frame) lk c k
  exact ⟨F, PySem.W.mg_of X G a, F.binds (ps := ["value"]) fun _ _ _ _ _ _ us hl => match us, hl with | [_], _ => rfl⟩
theorem mkD_is_layout {K : PySem.W.Frag} {h : Heap} {mg : Str → Option Value} (X : K.In h) (G : h.Ns mainGlobals mg) {f : Addr} {od an : Option Addr} {sl : Array (Option Value)} {oc kV dc pm cd ct : Value} (a : PySem.W.nsIn K mainGlobals "is_layout" = some (some (.ref f))) (lk : K.lookup f = some ⟨oc, od, .func (PySem.W.fnOf "is_layout" "is_layout" (defArgs s_is_layout) (defBody s_is_layout) (defScope s_is_layout) .none kV dc pm an cd ct), sl⟩) (c : PySem.W.codeIn K cd "is_layout" = true) (k : PySem.W.keepIn K (.ref f) = true) : Dn K mg "is_layout" s_is_layout ["value"] f (PySem.W.fnOf "is_layout" "is_layout" (defArgs s_is_layout) (defBody s_is_layout) (defScope s_is_layout) .none kV dc pm an cd ct) := by
  have F := fun_mk (st := s_is_layout) lk c k
  exact ⟨F, PySem.W.mg_of X G a, F.binds (ps := ["value"]) fun _ _ _ _ _ _ us hl => match us, hl with | [_], _ => rfl⟩
theorem mkD_is_bits {K : PySem.W.Frag} {h : Heap} {mg : Str → Option Value} (X : K.In h) (G : h.Ns mainGlobals mg) {f : Addr} {od an : Option Addr} {sl : Array (Option Value)} {oc kV dc pm cd ct : Value} (a : PySem.W.nsIn K mainGlobals "is_bits" = some (some (.ref f))) (lk : K.lookup f = some ⟨oc, od, .func (PySem.W.fnOf "is_bits" "is_bits" (defArgs s_is_bits) (defBody s_is_bits) (defScope s_is_bits) .none kV dc pm an cd ct), sl⟩) (c : PySem.W.codeIn K cd "is_bits" = true) (k : PySem.W.keepIn K (.ref f) = true) : Dn K mg "is_bits" s_is_bits ["value"] f (PySem.W.fnOf "is_bits" "is_bits" (defArgs s_is_bits) (defBody s_is_bits) (defScope s_is_bits) .none kV dc pm an cd ct) := by
  have F := fun_mk (st := s_is_bits) lk c k
  exact ⟨F, PySem.W.mg_of X G a, F.binds (ps := ["value"]) fun _ _ _ _ _ _ us hl => match us, hl with | [_], _ => rfl⟩
theorem mkD_read_frame {K : PySem.W.Frag} {h : Heap} {mg : Str → Option Value} (X : K.In h) (G : h.Ns mainGlobals mg) {f : Addr} {od an : Option Addr} {sl : Array (Option Value)} {oc kV dc pm cd ct : Value} (a : PySem.W.nsIn K mainGlobals "read_frame" = some (some (.ref f))) (lk : K.lookup f = some ⟨oc, od, .func (PySem.W.fnOf "read_frame" "read_frame" (defArgs s_read_frame) (defBody s_read_frame) (defScope s_read_frame) .none kV dc pm an cd ct), sl⟩) (c : PySem.W.codeIn K cd "read_frame" = true) (k : PySem.W.keepIn K (.ref f) = true) : Dn K mg "read_frame" s_read_frame ["record", "tables"] f (PySem.W.fnOf "read_frame" "read_frame" (defArgs s_read_frame) (defBody s_read_frame) (defScope s_read_frame) .none kV dc pm an cd ct) := by
  have F := fun_mk (st := s_read_frame) lk c k
  exact ⟨F, PySem.W.mg_of X G a, F.binds (ps := ["record", "tables"]) fun _ _ _ _ _ _ us hl => match us, hl with | [_, _], _ => rfl⟩
theorem mkD_check_records {K : PySem.W.Frag} {h : Heap} {mg : Str → Option Value} (X : K.In h) (G : h.Ns mainGlobals mg) {f : Addr} {od an : Option Addr} {sl : Array (Option Value)} {oc kV dc pm cd ct : Value} (a : PySem.W.nsIn K mainGlobals "check_records" = some (some (.ref f))) (lk : K.lookup f = some ⟨oc, od, .func (PySem.W.fnOf "check_records" "check_records" (defArgs s_check_records) (defBody s_check_records) (defScope s_check_records) .none kV dc pm an cd ct), sl⟩) (c : PySem.W.codeIn K cd "check_records" = true) (k : PySem.W.keepIn K (.ref f) = true) : Dn K mg "check_records" s_check_records ["records"] f (PySem.W.fnOf "check_records" "check_records" (defArgs s_check_records) (defBody s_check_records) (defScope s_check_records) .none kV dc pm an cd ct) := by
  have F := fun_mk (st := s_check_records) lk c k
  exact ⟨F, PySem.W.mg_of X G a, F.binds (ps := ["records"]) fun _ _ _ _ _ _ us hl => match us, hl with | [_], _ => rfl⟩
theorem mkD_read_frames {K : PySem.W.Frag} {h : Heap} {mg : Str → Option Value} (X : K.In h) (G : h.Ns mainGlobals mg) {f : Addr} {od an : Option Addr} {sl : Array (Option Value)} {oc kV dc pm cd ct : Value} (a : PySem.W.nsIn K mainGlobals "read_frames" = some (some (.ref f))) (lk : K.lookup f = some ⟨oc, od, .func (PySem.W.fnOf "read_frames" "read_frames" (defArgs s_read_frames) (defBody s_read_frames) (defScope s_read_frames) .none kV dc pm an cd ct), sl⟩) (c : PySem.W.codeIn K cd "read_frames" = true) (k : PySem.W.keepIn K (.ref f) = true) : Dn K mg "read_frames" s_read_frames ["records"] f (PySem.W.fnOf "read_frames" "read_frames" (defArgs s_read_frames) (defBody s_read_frames) (defScope s_read_frames) .none kV dc pm an cd ct) := by
  have F := fun_mk (st := s_read_frames) lk c k
  exact ⟨F, PySem.W.mg_of X G a, F.binds (ps := ["records"]) fun _ _ _ _ _ _ us hl => match us, hl with | [_], _ => rfl⟩
theorem mkD_check_behind {K : PySem.W.Frag} {h : Heap} {mg : Str → Option Value} (X : K.In h) (G : h.Ns mainGlobals mg) {f : Addr} {od an : Option Addr} {sl : Array (Option Value)} {oc kV dc pm cd ct : Value} (a : PySem.W.nsIn K mainGlobals "check_behind" = some (some (.ref f))) (lk : K.lookup f = some ⟨oc, od, .func (PySem.W.fnOf "check_behind" "check_behind" (defArgs s_check_behind) (defBody s_check_behind) (defScope s_check_behind) .none kV dc pm an cd ct), sl⟩) (c : PySem.W.codeIn K cd "check_behind" = true) (k : PySem.W.keepIn K (.ref f) = true) : Dn K mg "check_behind" s_check_behind ["words", "check"] f (PySem.W.fnOf "check_behind" "check_behind" (defArgs s_check_behind) (defBody s_check_behind) (defScope s_check_behind) .none kV dc pm an cd ct) := by
  have F := fun_mk (st := s_check_behind) lk c k
  exact ⟨F, PySem.W.mg_of X G a, F.binds (ps := ["words", "check"]) fun _ _ _ _ _ _ us hl => match us, hl with | [_, _], _ => rfl⟩
theorem mkD_recovered_records {K : PySem.W.Frag} {h : Heap} {mg : Str → Option Value} (X : K.In h) (G : h.Ns mainGlobals mg) {f : Addr} {od an : Option Addr} {sl : Array (Option Value)} {oc kV dc pm cd ct : Value} (a : PySem.W.nsIn K mainGlobals "recovered_records" = some (some (.ref f))) (lk : K.lookup f = some ⟨oc, od, .func (PySem.W.fnOf "recovered_records" "recovered_records" (defArgs s_recovered_records) (defBody s_recovered_records) (defScope s_recovered_records) .none kV dc pm an cd ct), sl⟩) (c : PySem.W.codeIn K cd "recovered_records" = true) (k : PySem.W.keepIn K (.ref f) = true) : Dn K mg "recovered_records" s_recovered_records ["text"] f (PySem.W.fnOf "recovered_records" "recovered_records" (defArgs s_recovered_records) (defBody s_recovered_records) (defScope s_recovered_records) .none kV dc pm an cd ct) := by
  have F := fun_mk (st := s_recovered_records) lk c k
  exact ⟨F, PySem.W.mg_of X G a, F.binds (ps := ["text"]) fun _ _ _ _ _ _ us hl => match us, hl with | [_], _ => rfl⟩
theorem mkD_parse_stream {K : PySem.W.Frag} {h : Heap} {mg : Str → Option Value} (X : K.In h) (G : h.Ns mainGlobals mg) {f : Addr} {od an : Option Addr} {sl : Array (Option Value)} {oc kV dc pm cd ct : Value} (a : PySem.W.nsIn K mainGlobals "parse_stream" = some (some (.ref f))) (lk : K.lookup f = some ⟨oc, od, .func (PySem.W.fnOf "parse_stream" "parse_stream" (defArgs s_parse_stream) (defBody s_parse_stream) (defScope s_parse_stream) .none kV dc pm an cd ct), sl⟩) (c : PySem.W.codeIn K cd "parse_stream" = true) (k : PySem.W.keepIn K (.ref f) = true) : Dn K mg "parse_stream" s_parse_stream ["text"] f (PySem.W.fnOf "parse_stream" "parse_stream" (defArgs s_parse_stream) (defBody s_parse_stream) (defScope s_parse_stream) .none kV dc pm an cd ct) := by
  have F := fun_mk (st := s_parse_stream) lk c k
  exact ⟨F, PySem.W.mg_of X G a, F.binds (ps := ["text"]) fun _ _ _ _ _ _ us hl => match us, hl with | [_], _ => rfl⟩
theorem mkD_valid_records {K : PySem.W.Frag} {h : Heap} {mg : Str → Option Value} (X : K.In h) (G : h.Ns mainGlobals mg) {f : Addr} {od an : Option Addr} {sl : Array (Option Value)} {oc kV dc pm cd ct : Value} (a : PySem.W.nsIn K mainGlobals "valid_records" = some (some (.ref f))) (lk : K.lookup f = some ⟨oc, od, .func (PySem.W.fnOf "valid_records" "valid_records" (defArgs s_valid_records) (defBody s_valid_records) (defScope s_valid_records) .none kV dc pm an cd ct), sl⟩) (c : PySem.W.codeIn K cd "valid_records" = true) (k : PySem.W.keepIn K (.ref f) = true) : Dn K mg "valid_records" s_valid_records ["text"] f (PySem.W.fnOf "valid_records" "valid_records" (defArgs s_valid_records) (defBody s_valid_records) (defScope s_valid_records) .none kV dc pm an cd ct) := by
  have F := fun_mk (st := s_valid_records) lk c k
  exact ⟨F, PySem.W.mg_of X G a, F.binds (ps := ["text"]) fun _ _ _ _ _ _ us hl => match us, hl with | [_], _ => rfl⟩
theorem mkD_record_of {K : PySem.W.Frag} {h : Heap} {mg : Str → Option Value} (X : K.In h) (G : h.Ns mainGlobals mg) {f : Addr} {od an : Option Addr} {sl : Array (Option Value)} {oc kV dc pm cd ct : Value} (a : PySem.W.nsIn K mainGlobals "record_of" = some (some (.ref f))) (lk : K.lookup f = some ⟨oc, od, .func (PySem.W.fnOf "record_of" "record_of" (defArgs s_record_of) (defBody s_record_of) (defScope s_record_of) .none kV dc pm an cd ct), sl⟩) (c : PySem.W.codeIn K cd "record_of" = true) (k : PySem.W.keepIn K (.ref f) = true) : Dn K mg "record_of" s_record_of ["words"] f (PySem.W.fnOf "record_of" "record_of" (defArgs s_record_of) (defBody s_record_of) (defScope s_record_of) .none kV dc pm an cd ct) := by
  have F := fun_mk (st := s_record_of) lk c k
  exact ⟨F, PySem.W.mg_of X G a, F.binds (ps := ["words"]) fun _ _ _ _ _ _ us hl => match us, hl with | [_], _ => rfl⟩
theorem mkD_number_of {K : PySem.W.Frag} {h : Heap} {mg : Str → Option Value} (X : K.In h) (G : h.Ns mainGlobals mg) {f : Addr} {od an : Option Addr} {sl : Array (Option Value)} {oc kV dc pm cd ct : Value} (a : PySem.W.nsIn K mainGlobals "number_of" = some (some (.ref f))) (lk : K.lookup f = some ⟨oc, od, .func (PySem.W.fnOf "number_of" "number_of" (defArgs s_number_of) (defBody s_number_of) (defScope s_number_of) .none kV dc pm an cd ct), sl⟩) (c : PySem.W.codeIn K cd "number_of" = true) (k : PySem.W.keepIn K (.ref f) = true) : Dn K mg "number_of" s_number_of ["word"] f (PySem.W.fnOf "number_of" "number_of" (defArgs s_number_of) (defBody s_number_of) (defScope s_number_of) .none kV dc pm an cd ct) := by
  have F := fun_mk (st := s_number_of) lk c k
  exact ⟨F, PySem.W.mg_of X G a, F.binds (ps := ["word"]) fun _ _ _ _ _ _ us hl => match us, hl with | [_], _ => rfl⟩
theorem mkD_pool {K : PySem.W.Frag} {h : Heap} {mg : Str → Option Value} (X : K.In h) (G : h.Ns mainGlobals mg) {f : Addr} {od an : Option Addr} {sl : Array (Option Value)} {oc kV dc pm cd ct : Value} (a : PySem.W.nsIn K mainGlobals "_law_pool" = some (some (.ref f))) (lk : K.lookup f = some ⟨oc, od, .func (PySem.W.fnOf "_law_pool" "_law_pool" (defArgs s_pool) (defBody s_pool) (defScope s_pool) .none kV dc pm an cd ct), sl⟩) (c : PySem.W.codeIn K cd "_law_pool" = true) (k : PySem.W.keepIn K (.ref f) = true) : Dn K mg "_law_pool" s_pool ["_law_script", "_law_k"] f (PySem.W.fnOf "_law_pool" "_law_pool" (defArgs s_pool) (defBody s_pool) (defScope s_pool) .none kV dc pm an cd ct) := by
  have F := fun_mk (st := s_pool) lk c k
  exact ⟨F, PySem.W.mg_of X G a, F.binds (ps := ["_law_script", "_law_k"]) fun _ _ _ _ _ _ us hl => match us, hl with | [_, _], _ => rfl⟩
theorem mkD_take {K : PySem.W.Frag} {h : Heap} {mg : Str → Option Value} (X : K.In h) (G : h.Ns mainGlobals mg) {f : Addr} {od an : Option Addr} {sl : Array (Option Value)} {oc kV dc pm cd ct : Value} (a : PySem.W.nsIn K mainGlobals "_law_take" = some (some (.ref f))) (lk : K.lookup f = some ⟨oc, od, .func (PySem.W.fnOf "_law_take" "_law_take" (defArgs s_take) (defBody s_take) (defScope s_take) .none kV dc pm an cd ct), sl⟩) (c : PySem.W.codeIn K cd "_law_take" = true) (k : PySem.W.keepIn K (.ref f) = true) : Dn K mg "_law_take" s_take ["_law_pool_here", "_law_many"] f (PySem.W.fnOf "_law_take" "_law_take" (defArgs s_take) (defBody s_take) (defScope s_take) .none kV dc pm an cd ct) := by
  have F := fun_mk (st := s_take) lk c k
  exact ⟨F, PySem.W.mg_of X G a, F.binds (ps := ["_law_pool_here", "_law_many"]) fun _ _ _ _ _ _ us hl => match us, hl with | [_, _], _ => rfl⟩
theorem mkD_same {K : PySem.W.Frag} {h : Heap} {mg : Str → Option Value} (X : K.In h) (G : h.Ns mainGlobals mg) {f : Addr} {od an : Option Addr} {sl : Array (Option Value)} {oc kV dc pm cd ct : Value} (a : PySem.W.nsIn K mainGlobals "_law_same" = some (some (.ref f))) (lk : K.lookup f = some ⟨oc, od, .func (PySem.W.fnOf "_law_same" "_law_same" (defArgs s_same) (defBody s_same) (defScope s_same) .none kV dc pm an cd ct), sl⟩) (c : PySem.W.codeIn K cd "_law_same" = true) (k : PySem.W.keepIn K (.ref f) = true) : Dn K mg "_law_same" s_same ["_law_actual", "_law_due"] f (PySem.W.fnOf "_law_same" "_law_same" (defArgs s_same) (defBody s_same) (defScope s_same) .none kV dc pm an cd ct) := by
  have F := fun_mk (st := s_same) lk c k
  exact ⟨F, PySem.W.mg_of X G a, F.binds (ps := ["_law_actual", "_law_due"]) fun _ _ _ _ _ _ us hl => match us, hl with | [_, _], _ => rfl⟩
theorem mkD_binary {K : PySem.W.Frag} {h : Heap} {mg : Str → Option Value} (X : K.In h) (G : h.Ns mainGlobals mg) {f : Addr} {od an : Option Addr} {sl : Array (Option Value)} {oc kV dc pm cd ct : Value} (a : PySem.W.nsIn K mainGlobals "_law_binary" = some (some (.ref f))) (lk : K.lookup f = some ⟨oc, od, .func (PySem.W.fnOf "_law_binary" "_law_binary" (defArgs s_binary) (defBody s_binary) (defScope s_binary) .none kV dc pm an cd ct), sl⟩) (c : PySem.W.codeIn K cd "_law_binary" = true) (k : PySem.W.keepIn K (.ref f) = true) : Dn K mg "_law_binary" s_binary ["_law_u_here"] f (PySem.W.fnOf "_law_binary" "_law_binary" (defArgs s_binary) (defBody s_binary) (defScope s_binary) .none kV dc pm an cd ct) := by
  have F := fun_mk (st := s_binary) lk c k
  exact ⟨F, PySem.W.mg_of X G a, F.binds (ps := ["_law_u_here"]) fun _ _ _ _ _ _ us hl => match us, hl with | [_], _ => rfl⟩
theorem mkD_l_parameter {K : PySem.W.Frag} {h : Heap} {mg : Str → Option Value} (X : K.In h) (G : h.Ns mainGlobals mg) {f : Addr} {od an : Option Addr} {sl : Array (Option Value)} {oc kV dc pm cd ct : Value} (a : PySem.W.nsIn K mainGlobals "_law_parameter" = some (some (.ref f))) (lk : K.lookup f = some ⟨oc, od, .func (PySem.W.fnOf "_law_parameter" "_law_parameter" (defArgs s_l_parameter) (defBody s_l_parameter) (defScope s_l_parameter) .none kV dc pm an cd ct), sl⟩) (c : PySem.W.codeIn K cd "_law_parameter" = true) (k : PySem.W.keepIn K (.ref f) = true) : Dn K mg "_law_parameter" s_l_parameter ["_law_row"] f (PySem.W.fnOf "_law_parameter" "_law_parameter" (defArgs s_l_parameter) (defBody s_l_parameter) (defScope s_l_parameter) .none kV dc pm an cd ct) := by
  have F := fun_mk (st := s_l_parameter) lk c k
  exact ⟨F, PySem.W.mg_of X G a, F.binds (ps := ["_law_row"]) fun _ _ _ _ _ _ us hl => match us, hl with | [_], _ => rfl⟩
theorem mkD_code {K : PySem.W.Frag} {h : Heap} {mg : Str → Option Value} (X : K.In h) (G : h.Ns mainGlobals mg) {f : Addr} {od an : Option Addr} {sl : Array (Option Value)} {oc kV dc pm cd ct : Value} (a : PySem.W.nsIn K mainGlobals "_law_code" = some (some (.ref f))) (lk : K.lookup f = some ⟨oc, od, .func (PySem.W.fnOf "_law_code" "_law_code" (defArgs s_code) (defBody s_code) (defScope s_code) .none kV dc pm an cd ct), sl⟩) (c : PySem.W.codeIn K cd "_law_code" = true) (k : PySem.W.keepIn K (.ref f) = true) : Dn K mg "_law_code" s_code ["_law_u_here", "_law_k"] f (PySem.W.fnOf "_law_code" "_law_code" (defArgs s_code) (defBody s_code) (defScope s_code) .none kV dc pm an cd ct) := by
  have F := fun_mk (st := s_code) lk c k
  exact ⟨F, PySem.W.mg_of X G a, F.binds (ps := ["_law_u_here", "_law_k"]) fun _ _ _ _ _ _ us hl => match us, hl with | [_, _], _ => rfl⟩
theorem mkD_behind {K : PySem.W.Frag} {h : Heap} {mg : Str → Option Value} (X : K.In h) (G : h.Ns mainGlobals mg) {f : Addr} {od an : Option Addr} {sl : Array (Option Value)} {oc kV dc pm cd ct : Value} (a : PySem.W.nsIn K mainGlobals "_law_behind" = some (some (.ref f))) (lk : K.lookup f = some ⟨oc, od, .func (PySem.W.fnOf "_law_behind" "_law_behind" (defArgs s_behind) (defBody s_behind) (defScope s_behind) .none kV dc pm an cd ct), sl⟩) (c : PySem.W.codeIn K cd "_law_behind" = true) (k : PySem.W.keepIn K (.ref f) = true) : Dn K mg "_law_behind" s_behind ["_law_row", "_law_u_here"] f (PySem.W.fnOf "_law_behind" "_law_behind" (defArgs s_behind) (defBody s_behind) (defScope s_behind) .none kV dc pm an cd ct) := by
  have F := fun_mk (st := s_behind) lk c k
  exact ⟨F, PySem.W.mg_of X G a, F.binds (ps := ["_law_row", "_law_u_here"]) fun _ _ _ _ _ _ us hl => match us, hl with | [_, _], _ => rfl⟩
theorem mkD_u {K : PySem.W.Frag} {h : Heap} {mg : Str → Option Value} (X : K.In h) (G : h.Ns mainGlobals mg) {f : Addr} {od an : Option Addr} {sl : Array (Option Value)} {oc kV dc pm cd ct : Value} (a : PySem.W.nsIn K mainGlobals "_law_u" = some (some (.ref f))) (lk : K.lookup f = some ⟨oc, od, .func (PySem.W.fnOf "_law_u" "_law_u" (defArgs s_u) (defBody s_u) (defScope s_u) .none kV dc pm an cd ct), sl⟩) (c : PySem.W.codeIn K cd "_law_u" = true) (k : PySem.W.keepIn K (.ref f) = true) : Dn K mg "_law_u" s_u ["_law_number"] f (PySem.W.fnOf "_law_u" "_law_u" (defArgs s_u) (defBody s_u) (defScope s_u) .none kV dc pm an cd ct) := by
  have F := fun_mk (st := s_u) lk c k
  exact ⟨F, PySem.W.mg_of X G a, F.binds (ps := ["_law_number"]) fun _ _ _ _ _ _ us hl => match us, hl with | [_], _ => rfl⟩
theorem mkD_written {K : PySem.W.Frag} {h : Heap} {mg : Str → Option Value} (X : K.In h) (G : h.Ns mainGlobals mg) {f : Addr} {od an : Option Addr} {sl : Array (Option Value)} {oc kV dc pm cd ct : Value} (a : PySem.W.nsIn K mainGlobals "_law_written" = some (some (.ref f))) (lk : K.lookup f = some ⟨oc, od, .func (PySem.W.fnOf "_law_written" "_law_written" (defArgs s_written) (defBody s_written) (defScope s_written) .none kV dc pm an cd ct), sl⟩) (c : PySem.W.codeIn K cd "_law_written" = true) (k : PySem.W.keepIn K (.ref f) = true) : Dn K mg "_law_written" s_written ["_law_some_here", "_law_first", "_law_start"] f (PySem.W.fnOf "_law_written" "_law_written" (defArgs s_written) (defBody s_written) (defScope s_written) .none kV dc pm an cd ct) := by
  have F := fun_mk (st := s_written) lk c k
  exact ⟨F, PySem.W.mg_of X G a, F.binds (ps := ["_law_some_here", "_law_first", "_law_start"]) fun _ _ _ _ _ _ us hl => match us, hl with | [_, _, _], _ => rfl⟩
theorem mkD_mark {K : PySem.W.Frag} {h : Heap} {mg : Str → Option Value} (X : K.In h) (G : h.Ns mainGlobals mg) {f : Addr} {od an : Option Addr} {sl : Array (Option Value)} {oc kV dc pm cd ct : Value} (a : PySem.W.nsIn K mainGlobals "_law_mark" = some (some (.ref f))) (lk : K.lookup f = some ⟨oc, od, .func (PySem.W.fnOf "_law_mark" "_law_mark" (defArgs s_mark) (defBody s_mark) (defScope s_mark) .none kV dc pm an cd ct), sl⟩) (c : PySem.W.codeIn K cd "_law_mark" = true) (k : PySem.W.keepIn K (.ref f) = true) : Dn K mg "_law_mark" s_mark ["_law_some_here"] f (PySem.W.fnOf "_law_mark" "_law_mark" (defArgs s_mark) (defBody s_mark) (defScope s_mark) .none kV dc pm an cd ct) := by
  have F := fun_mk (st := s_mark) lk c k
  exact ⟨F, PySem.W.mg_of X G a, F.binds (ps := ["_law_some_here"]) fun _ _ _ _ _ _ us hl => match us, hl with | [_], _ => rfl⟩
theorem mkD_counts {K : PySem.W.Frag} {h : Heap} {mg : Str → Option Value} (X : K.In h) (G : h.Ns mainGlobals mg) {f : Addr} {od an : Option Addr} {sl : Array (Option Value)} {oc kV dc pm cd ct : Value} (a : PySem.W.nsIn K mainGlobals "_law_counts" = some (some (.ref f))) (lk : K.lookup f = some ⟨oc, od, .func (PySem.W.fnOf "_law_counts" "_law_counts" (defArgs s_counts) (defBody s_counts) (defScope s_counts) .none kV dc pm an cd ct), sl⟩) (c : PySem.W.codeIn K cd "_law_counts" = true) (k : PySem.W.keepIn K (.ref f) = true) : Dn K mg "_law_counts" s_counts ["_law_size", "_law_many"] f (PySem.W.fnOf "_law_counts" "_law_counts" (defArgs s_counts) (defBody s_counts) (defScope s_counts) .none kV dc pm an cd ct) := by
  have F := fun_mk (st := s_counts) lk c k
  exact ⟨F, PySem.W.mg_of X G a, F.binds (ps := ["_law_size", "_law_many"]) fun _ _ _ _ _ _ us hl => match us, hl with | [_, _], _ => rfl⟩
theorem mkD_heads {K : PySem.W.Frag} {h : Heap} {mg : Str → Option Value} (X : K.In h) (G : h.Ns mainGlobals mg) {f : Addr} {od an : Option Addr} {sl : Array (Option Value)} {oc kV dc pm cd ct : Value} (a : PySem.W.nsIn K mainGlobals "_law_heads" = some (some (.ref f))) (lk : K.lookup f = some ⟨oc, od, .func (PySem.W.fnOf "_law_heads" "_law_heads" (defArgs s_heads) (defBody s_heads) (defScope s_heads) .none kV dc pm an cd ct), sl⟩) (c : PySem.W.codeIn K cd "_law_heads" = true) (k : PySem.W.keepIn K (.ref f) = true) : Dn K mg "_law_heads" s_heads ["_law_pool_here", "_law_many"] f (PySem.W.fnOf "_law_heads" "_law_heads" (defArgs s_heads) (defBody s_heads) (defScope s_heads) .none kV dc pm an cd ct) := by
  have F := fun_mk (st := s_heads) lk c k
  exact ⟨F, PySem.W.mg_of X G a, F.binds (ps := ["_law_pool_here", "_law_many"]) fun _ _ _ _ _ _ us hl => match us, hl with | [_, _], _ => rfl⟩
theorem mkD_some {K : PySem.W.Frag} {h : Heap} {mg : Str → Option Value} (X : K.In h) (G : h.Ns mainGlobals mg) {f : Addr} {od an : Option Addr} {sl : Array (Option Value)} {oc kV dc pm cd ct : Value} (a : PySem.W.nsIn K mainGlobals "_law_some" = some (some (.ref f))) (lk : K.lookup f = some ⟨oc, od, .func (PySem.W.fnOf "_law_some" "_law_some" (defArgs s_some) (defBody s_some) (defScope s_some) .none kV dc pm an cd ct), sl⟩) (c : PySem.W.codeIn K cd "_law_some" = true) (k : PySem.W.keepIn K (.ref f) = true) : Dn K mg "_law_some" s_some ["_law_pool_here", "_law_size"] f (PySem.W.fnOf "_law_some" "_law_some" (defArgs s_some) (defBody s_some) (defScope s_some) .none kV dc pm an cd ct) := by
  have F := fun_mk (st := s_some) lk c k
  exact ⟨F, PySem.W.mg_of X G a, F.binds (ps := ["_law_pool_here", "_law_size"]) fun _ _ _ _ _ _ us hl => match us, hl with | [_, _], _ => rfl⟩
theorem mkD_frame {K : PySem.W.Frag} {h : Heap} {mg : Str → Option Value} (X : K.In h) (G : h.Ns mainGlobals mg) {f : Addr} {od an : Option Addr} {sl : Array (Option Value)} {oc kV dc pm cd ct : Value} (a : PySem.W.nsIn K mainGlobals "_law_frame" = some (some (.ref f))) (lk : K.lookup f = some ⟨oc, od, .func (PySem.W.fnOf "_law_frame" "_law_frame" (defArgs s_frame) (defBody s_frame) (defScope s_frame) .none kV dc pm an cd ct), sl⟩) (c : PySem.W.codeIn K cd "_law_frame" = true) (k : PySem.W.keepIn K (.ref f) = true) : Dn K mg "_law_frame" s_frame ["_law_head", "_law_some_here", "_law_start"] f (PySem.W.fnOf "_law_frame" "_law_frame" (defArgs s_frame) (defBody s_frame) (defScope s_frame) .none kV dc pm an cd ct) := by
  have F := fun_mk (st := s_frame) lk c k
  exact ⟨F, PySem.W.mg_of X G a, F.binds (ps := ["_law_head", "_law_some_here", "_law_start"]) fun _ _ _ _ _ _ us hl => match us, hl with | [_, _, _], _ => rfl⟩
theorem mkD_tables {K : PySem.W.Frag} {h : Heap} {mg : Str → Option Value} (X : K.In h) (G : h.Ns mainGlobals mg) {f : Addr} {od an : Option Addr} {sl : Array (Option Value)} {oc kV dc pm cd ct : Value} (a : PySem.W.nsIn K mainGlobals "_law_tables" = some (some (.ref f))) (lk : K.lookup f = some ⟨oc, od, .func (PySem.W.fnOf "_law_tables" "_law_tables" (defArgs s_tables) (defBody s_tables) (defScope s_tables) .none kV dc pm an cd ct), sl⟩) (c : PySem.W.codeIn K cd "_law_tables" = true) (k : PySem.W.keepIn K (.ref f) = true) : Dn K mg "_law_tables" s_tables ["_law_pool_here"] f (PySem.W.fnOf "_law_tables" "_law_tables" (defArgs s_tables) (defBody s_tables) (defScope s_tables) .none kV dc pm an cd ct) := by
  have F := fun_mk (st := s_tables) lk c k
  exact ⟨F, PySem.W.mg_of X G a, F.binds (ps := ["_law_pool_here"]) fun _ _ _ _ _ _ us hl => match us, hl with | [_], _ => rfl⟩
theorem mkD_stream {K : PySem.W.Frag} {h : Heap} {mg : Str → Option Value} (X : K.In h) (G : h.Ns mainGlobals mg) {f : Addr} {od an : Option Addr} {sl : Array (Option Value)} {oc kV dc pm cd ct : Value} (a : PySem.W.nsIn K mainGlobals "_law_stream" = some (some (.ref f))) (lk : K.lookup f = some ⟨oc, od, .func (PySem.W.fnOf "_law_stream" "_law_stream" (defArgs s_stream) (defBody s_stream) (defScope s_stream) .none kV dc pm an cd ct), sl⟩) (c : PySem.W.codeIn K cd "_law_stream" = true) (k : PySem.W.keepIn K (.ref f) = true) : Dn K mg "_law_stream" s_stream ["_law_pool_here", "_law_many"] f (PySem.W.fnOf "_law_stream" "_law_stream" (defArgs s_stream) (defBody s_stream) (defScope s_stream) .none kV dc pm an cd ct) := by
  have F := fun_mk (st := s_stream) lk c k
  exact ⟨F, PySem.W.mg_of X G a, F.binds (ps := ["_law_pool_here", "_law_many"]) fun _ _ _ _ _ _ us hl => match us, hl with | [_, _], _ => rfl⟩
theorem mkD_check {K : PySem.W.Frag} {h : Heap} {mg : Str → Option Value} (X : K.In h) (G : h.Ns mainGlobals mg) {f : Addr} {od an : Option Addr} {sl : Array (Option Value)} {oc kV dc pm cd ct : Value} (a : PySem.W.nsIn K mainGlobals "_law_check" = some (some (.ref f))) (lk : K.lookup f = some ⟨oc, od, .func (PySem.W.fnOf "_law_check" "_law_check" (defArgs s_check) (defBody s_check) (defScope s_check) .none kV dc pm an cd ct), sl⟩) (c : PySem.W.codeIn K cd "_law_check" = true) (k : PySem.W.keepIn K (.ref f) = true) : Dn K mg "_law_check" s_check ["_law_before", "_law_body_here"] f (PySem.W.fnOf "_law_check" "_law_check" (defArgs s_check) (defBody s_check) (defScope s_check) .none kV dc pm an cd ct) := by
  have F := fun_mk (st := s_check) lk c k
  exact ⟨F, PySem.W.mg_of X G a, F.binds (ps := ["_law_before", "_law_body_here"]) fun _ _ _ _ _ _ us hl => match us, hl with | [_, _], _ => rfl⟩
theorem mkD_body {K : PySem.W.Frag} {h : Heap} {mg : Str → Option Value} (X : K.In h) (G : h.Ns mainGlobals mg) {f : Addr} {od an : Option Addr} {sl : Array (Option Value)} {oc kV dc pm cd ct : Value} (a : PySem.W.nsIn K mainGlobals "_law_body" = some (some (.ref f))) (lk : K.lookup f = some ⟨oc, od, .func (PySem.W.fnOf "_law_body" "_law_body" (defArgs s_body) (defBody s_body) (defScope s_body) .none kV dc pm an cd ct), sl⟩) (c : PySem.W.codeIn K cd "_law_body" = true) (k : PySem.W.keepIn K (.ref f) = true) : Dn K mg "_law_body" s_body ["_law_record"] f (PySem.W.fnOf "_law_body" "_law_body" (defArgs s_body) (defBody s_body) (defScope s_body) .none kV dc pm an cd ct) := by
  have F := fun_mk (st := s_body) lk c k
  exact ⟨F, PySem.W.mg_of X G a, F.binds (ps := ["_law_record"]) fun _ _ _ _ _ _ us hl => match us, hl with | [_], _ => rfl⟩
theorem mkD_lines {K : PySem.W.Frag} {h : Heap} {mg : Str → Option Value} (X : K.In h) (G : h.Ns mainGlobals mg) {f : Addr} {od an : Option Addr} {sl : Array (Option Value)} {oc kV dc pm cd ct : Value} (a : PySem.W.nsIn K mainGlobals "_law_lines" = some (some (.ref f))) (lk : K.lookup f = some ⟨oc, od, .func (PySem.W.fnOf "_law_lines" "_law_lines" (defArgs s_lines) (defBody s_lines) (defScope s_lines) .none kV dc pm an cd ct), sl⟩) (c : PySem.W.codeIn K cd "_law_lines" = true) (k : PySem.W.keepIn K (.ref f) = true) : Dn K mg "_law_lines" s_lines ["_law_records"] f (PySem.W.fnOf "_law_lines" "_law_lines" (defArgs s_lines) (defBody s_lines) (defScope s_lines) .none kV dc pm an cd ct) := by
  have F := fun_mk (st := s_lines) lk c k
  exact ⟨F, PySem.W.mg_of X G a, F.binds (ps := ["_law_records"]) fun _ _ _ _ _ _ us hl => match us, hl with | [_], _ => rfl⟩
theorem mkD_bad {K : PySem.W.Frag} {h : Heap} {mg : Str → Option Value} (X : K.In h) (G : h.Ns mainGlobals mg) {f : Addr} {od an : Option Addr} {sl : Array (Option Value)} {oc kV dc pm cd ct : Value} (a : PySem.W.nsIn K mainGlobals "_law_bad" = some (some (.ref f))) (lk : K.lookup f = some ⟨oc, od, .func (PySem.W.fnOf "_law_bad" "_law_bad" (defArgs s_bad) (defBody s_bad) (defScope s_bad) .none kV dc pm an cd ct), sl⟩) (c : PySem.W.codeIn K cd "_law_bad" = true) (k : PySem.W.keepIn K (.ref f) = true) : Dn K mg "_law_bad" s_bad [] f (PySem.W.fnOf "_law_bad" "_law_bad" (defArgs s_bad) (defBody s_bad) (defScope s_bad) .none kV dc pm an cd ct) := by
  have F := fun_mk (st := s_bad) lk c k
  exact ⟨F, PySem.W.mg_of X G a, F.binds (ps := []) fun _ _ _ _ _ _ us hl => match us, hl with | [], _ => rfl⟩
theorem mkD_told {K : PySem.W.Frag} {h : Heap} {mg : Str → Option Value} (X : K.In h) (G : h.Ns mainGlobals mg) {f : Addr} {od an : Option Addr} {sl : Array (Option Value)} {oc kV dc pm cd ct : Value} (a : PySem.W.nsIn K mainGlobals "_law_told" = some (some (.ref f))) (lk : K.lookup f = some ⟨oc, od, .func (PySem.W.fnOf "_law_told" "_law_told" (defArgs s_told) (defBody s_told) (defScope s_told) .none kV dc pm an cd ct), sl⟩) (c : PySem.W.codeIn K cd "_law_told" = true) (k : PySem.W.keepIn K (.ref f) = true) : Dn K mg "_law_told" s_told ["_law_value"] f (PySem.W.fnOf "_law_told" "_law_told" (defArgs s_told) (defBody s_told) (defScope s_told) .none kV dc pm an cd ct) := by
  have F := fun_mk (st := s_told) lk c k
  exact ⟨F, PySem.W.mg_of X G a, F.binds (ps := ["_law_value"]) fun _ _ _ _ _ _ us hl => match us, hl with | [_], _ => rfl⟩
theorem mkD_recovered {K : PySem.W.Frag} {h : Heap} {mg : Str → Option Value} (X : K.In h) (G : h.Ns mainGlobals mg) {f : Addr} {od an : Option Addr} {sl : Array (Option Value)} {oc kV dc pm cd ct : Value} (a : PySem.W.nsIn K mainGlobals "_law_recovered" = some (some (.ref f))) (lk : K.lookup f = some ⟨oc, od, .func (PySem.W.fnOf "_law_recovered" "_law_recovered" (defArgs s_recovered) (defBody s_recovered) (defScope s_recovered) .none kV dc pm an cd ct), sl⟩) (c : PySem.W.codeIn K cd "_law_recovered" = true) (k : PySem.W.keepIn K (.ref f) = true) : Dn K mg "_law_recovered" s_recovered ["_law_value"] f (PySem.W.fnOf "_law_recovered" "_law_recovered" (defArgs s_recovered) (defBody s_recovered) (defScope s_recovered) .none kV dc pm an cd ct) := by
  have F := fun_mk (st := s_recovered) lk c k
  exact ⟨F, PySem.W.mg_of X G a, F.binds (ps := ["_law_value"]) fun _ _ _ _ _ _ us hl => match us, hl with | [_], _ => rfl⟩
theorem mkD_marked {K : PySem.W.Frag} {h : Heap} {mg : Str → Option Value} (X : K.In h) (G : h.Ns mainGlobals mg) {f : Addr} {od an : Option Addr} {sl : Array (Option Value)} {oc kV dc pm cd ct : Value} (a : PySem.W.nsIn K mainGlobals "_law_marked" = some (some (.ref f))) (lk : K.lookup f = some ⟨oc, od, .func (PySem.W.fnOf "_law_marked" "_law_marked" (defArgs s_marked) (defBody s_marked) (defScope s_marked) .none kV dc pm an cd ct), sl⟩) (c : PySem.W.codeIn K cd "_law_marked" = true) (k : PySem.W.keepIn K (.ref f) = true) : Dn K mg "_law_marked" s_marked ["_law_pool_here", "_law_body_here", "_law_check_here"] f (PySem.W.fnOf "_law_marked" "_law_marked" (defArgs s_marked) (defBody s_marked) (defScope s_marked) .none kV dc pm an cd ct) := by
  have F := fun_mk (st := s_marked) lk c k
  exact ⟨F, PySem.W.mg_of X G a, F.binds (ps := ["_law_pool_here", "_law_body_here", "_law_check_here"]) fun _ _ _ _ _ _ us hl => match us, hl with | [_, _, _], _ => rfl⟩
theorem mkD_with {K : PySem.W.Frag} {h : Heap} {mg : Str → Option Value} (X : K.In h) (G : h.Ns mainGlobals mg) {f : Addr} {od an : Option Addr} {sl : Array (Option Value)} {oc kV dc pm cd ct : Value} (a : PySem.W.nsIn K mainGlobals "_law_with" = some (some (.ref f))) (lk : K.lookup f = some ⟨oc, od, .func (PySem.W.fnOf "_law_with" "_law_with" (defArgs s_with) (defBody s_with) (defScope s_with) .none kV dc pm an cd ct), sl⟩) (c : PySem.W.codeIn K cd "_law_with" = true) (k : PySem.W.keepIn K (.ref f) = true) : Dn K mg "_law_with" s_with ["_law_lines_here", "_law_check_here", "_law_body_here"] f (PySem.W.fnOf "_law_with" "_law_with" (defArgs s_with) (defBody s_with) (defScope s_with) .none kV dc pm an cd ct) := by
  have F := fun_mk (st := s_with) lk c k
  exact ⟨F, PySem.W.mg_of X G a, F.binds (ps := ["_law_lines_here", "_law_check_here", "_law_body_here"]) fun _ _ _ _ _ _ us hl => match us, hl with | [_, _, _], _ => rfl⟩
theorem mkD_sizes_right {K : PySem.W.Frag} {h : Heap} {mg : Str → Option Value} (X : K.In h) (G : h.Ns mainGlobals mg) {f : Addr} {od an : Option Addr} {sl : Array (Option Value)} {oc kV dc pm cd ct : Value} (a : PySem.W.nsIn K mainGlobals "_law_sizes_right" = some (some (.ref f))) (lk : K.lookup f = some ⟨oc, od, .func (PySem.W.fnOf "_law_sizes_right" "_law_sizes_right" (defArgs s_sizes_right) (defBody s_sizes_right) (defScope s_sizes_right) .none kV dc pm an cd ct), sl⟩) (c : PySem.W.codeIn K cd "_law_sizes_right" = true) (k : PySem.W.keepIn K (.ref f) = true) : Dn K mg "_law_sizes_right" s_sizes_right ["_law_lines_here", "_law_records", "_law_check_here"] f (PySem.W.fnOf "_law_sizes_right" "_law_sizes_right" (defArgs s_sizes_right) (defBody s_sizes_right) (defScope s_sizes_right) .none kV dc pm an cd ct) := by
  have F := fun_mk (st := s_sizes_right) lk c k
  exact ⟨F, PySem.W.mg_of X G a, F.binds (ps := ["_law_lines_here", "_law_records", "_law_check_here"]) fun _ _ _ _ _ _ us hl => match us, hl with | [_, _, _], _ => rfl⟩
theorem all_mk {l : PySem.W.OpenLaw} {w : World} {K : PySem.W.Frag} {h : Heap} {mg : Str → Option Value} {fa : Addr} (X : K.In h) (G : h.Ns mainGlobals mg) (hfa : mg "law" = some (.ref fa))
    {f_is_integer : Addr} {fd_is_integer : FuncData}
    {f_is_within : Addr} {fd_is_within : FuncData}
    {f_check_integer : Addr} {fd_check_integer : FuncData}
    {f_check_within : Addr} {fd_check_within : FuncData}
    {f_check_items : Addr} {fd_check_items : FuncData}
    {f_check_block : Addr} {fd_check_block : FuncData}
    {f_is_joint : Addr} {fd_is_joint : FuncData}
    {f_coarse_count : Addr} {fd_coarse_count : FuncData}
    {f_is_table : Addr} {fd_is_table : FuncData}
    {f_is_tables : Addr} {fd_is_tables : FuncData}
    {f_parameter : Addr} {fd_parameter : FuncData}
    {f_table_behind : Addr} {fd_table_behind : FuncData}
    {f_code_number : Addr} {fd_code_number : FuncData}
    {f_number_with : Addr} {fd_number_with : FuncData}
    {f_read_numbers : Addr} {fd_read_numbers : FuncData}
    {f_check_coding : Addr} {fd_check_coding : FuncData}
    {f_read_code : Addr} {fd_read_code : FuncData}
    {f_mark_of : Addr} {fd_mark_of : FuncData}
    {f_is_record : Addr} {fd_is_record : FuncData}
    {f_is_state : Addr} {fd_is_state : FuncData}
    {f_is_frame : Addr} {fd_is_frame : FuncData}
    {f_is_layout : Addr} {fd_is_layout : FuncData}
    {f_is_bits : Addr} {fd_is_bits : FuncData}
    {f_read_frame : Addr} {fd_read_frame : FuncData}
    {f_check_records : Addr} {fd_check_records : FuncData}
    {f_read_frames : Addr} {fd_read_frames : FuncData}
    {f_check_behind : Addr} {fd_check_behind : FuncData}
    {f_recovered_records : Addr} {fd_recovered_records : FuncData}
    {f_parse_stream : Addr} {fd_parse_stream : FuncData}
    {f_valid_records : Addr} {fd_valid_records : FuncData}
    {f_record_of : Addr} {fd_record_of : FuncData}
    {f_number_of : Addr} {fd_number_of : FuncData}
    {f_pool : Addr} {fd_pool : FuncData}
    {f_take : Addr} {fd_take : FuncData}
    {f_same : Addr} {fd_same : FuncData}
    {f_binary : Addr} {fd_binary : FuncData}
    {f_l_parameter : Addr} {fd_l_parameter : FuncData}
    {f_code : Addr} {fd_code : FuncData}
    {f_behind : Addr} {fd_behind : FuncData}
    {f_u : Addr} {fd_u : FuncData}
    {f_written : Addr} {fd_written : FuncData}
    {f_mark : Addr} {fd_mark : FuncData}
    {f_counts : Addr} {fd_counts : FuncData}
    {f_heads : Addr} {fd_heads : FuncData}
    {f_some : Addr} {fd_some : FuncData}
    {f_frame : Addr} {fd_frame : FuncData}
    {f_tables : Addr} {fd_tables : FuncData}
    {f_stream : Addr} {fd_stream : FuncData}
    {f_check : Addr} {fd_check : FuncData}
    {f_body : Addr} {fd_body : FuncData}
    {f_lines : Addr} {fd_lines : FuncData}
    {f_bad : Addr} {fd_bad : FuncData}
    {f_told : Addr} {fd_told : FuncData}
    {f_recovered : Addr} {fd_recovered : FuncData}
    {f_marked : Addr} {fd_marked : FuncData}
    {f_with : Addr} {fd_with : FuncData}
    {f_sizes_right : Addr} {fd_sizes_right : FuncData}
    {f_law : Addr} {od_law an_law : Option Addr} {sl_law : Array (Option Value)} {oc_law kV_law dc_law pm_law cd_law ct_law : Value}
    {t_BLOCK_LIMIT : Tok}
    {t_COUNT_LIMIT : Tok}
    {t_SHAPE_LIMIT : Tok}
    {t_WIDTH_LIMIT : Tok}
    {t_LEVEL_LIMIT : Tok}
    {t_STEP_LIMIT : Tok}
    {t_MARK_MODULUS : Tok}
    {t_HALVED_COUNT : Tok}
    {t_LONG_FORM : Tok}
    {t_MARK_FACTOR : Tok}
    {t_FRAME_ITEMS : Tok}
    {t_SIGNS : Tok}
    {t_CHECK_FACTOR : Tok}
    {t_CHECK_MODULUS : Tok}
    {t_CHECK_START : Tok}
    {t_NO_BITS : Tok}
    {t_MARK : Tok}
    {t_DIGITS : Tok}
    {t_DIGITS_LIMIT : Tok}
    (D_is_integer : Dn K mg "is_integer" s_is_integer ["value"] f_is_integer fd_is_integer)
    (D_is_within : Dn K mg "is_within" s_is_within ["value", "low", "high"] f_is_within fd_is_within)
    (D_check_integer : Dn K mg "check_integer" s_check_integer ["value"] f_check_integer fd_check_integer)
    (D_check_within : Dn K mg "check_within" s_check_within ["value", "low", "high"] f_check_within fd_check_within)
    (D_check_items : Dn K mg "check_items" s_check_items ["values"] f_check_items fd_check_items)
    (D_check_block : Dn K mg "check_block" s_check_block ["values", "least"] f_check_block fd_check_block)
    (D_is_joint : Dn K mg "is_joint" s_is_joint ["value"] f_is_joint fd_is_joint)
    (D_coarse_count : Dn K mg "coarse_count" s_coarse_count ["length", "levels"] f_coarse_count fd_coarse_count)
    (D_is_table : Dn K mg "is_table" s_is_table ["value"] f_is_table fd_is_table)
    (D_is_tables : Dn K mg "is_tables" s_is_tables ["value"] f_is_tables fd_is_tables)
    (D_parameter : Dn K mg "parameter" s_parameter ["table"] f_parameter fd_parameter)
    (D_table_behind : Dn K mg "table_behind" s_table_behind ["table", "code"] f_table_behind fd_table_behind)
    (D_code_number : Dn K mg "code_number" s_code_number ["number"] f_code_number fd_code_number)
    (D_number_with : Dn K mg "number_with" s_number_with ["code"] f_number_with fd_number_with)
    (D_read_numbers : Dn K mg "read_numbers" s_read_numbers ["bits", "length", "coarse", "tables"] f_read_numbers fd_read_numbers)
    (D_check_coding : Dn K mg "check_coding" s_check_coding ["length", "coarse", "tables"] f_check_coding fd_check_coding)
    (D_read_code : Dn K mg "read_code" s_read_code ["bits", "place", "k"] f_read_code fd_read_code)
    (D_mark_of : Dn K mg "mark_of" s_mark_of ["numbers"] f_mark_of fd_mark_of)
    (D_is_record : Dn K mg "is_record" s_is_record ["value"] f_is_record fd_is_record)
    (D_is_state : Dn K mg "is_state" s_is_state ["value"] f_is_state fd_is_state)
    (D_is_frame : Dn K mg "is_frame" s_is_frame ["value"] f_is_frame fd_is_frame)
    (D_is_layout : Dn K mg "is_layout" s_is_layout ["value"] f_is_layout fd_is_layout)
    (D_is_bits : Dn K mg "is_bits" s_is_bits ["value"] f_is_bits fd_is_bits)
    (D_read_frame : Dn K mg "read_frame" s_read_frame ["record", "tables"] f_read_frame fd_read_frame)
    (D_check_records : Dn K mg "check_records" s_check_records ["records"] f_check_records fd_check_records)
    (D_read_frames : Dn K mg "read_frames" s_read_frames ["records"] f_read_frames fd_read_frames)
    (D_check_behind : Dn K mg "check_behind" s_check_behind ["words", "check"] f_check_behind fd_check_behind)
    (D_recovered_records : Dn K mg "recovered_records" s_recovered_records ["text"] f_recovered_records fd_recovered_records)
    (D_parse_stream : Dn K mg "parse_stream" s_parse_stream ["text"] f_parse_stream fd_parse_stream)
    (D_valid_records : Dn K mg "valid_records" s_valid_records ["text"] f_valid_records fd_valid_records)
    (D_record_of : Dn K mg "record_of" s_record_of ["words"] f_record_of fd_record_of)
    (D_number_of : Dn K mg "number_of" s_number_of ["word"] f_number_of fd_number_of)
    (D_pool : Dn K mg "_law_pool" s_pool ["_law_script", "_law_k"] f_pool fd_pool)
    (D_take : Dn K mg "_law_take" s_take ["_law_pool_here", "_law_many"] f_take fd_take)
    (D_same : Dn K mg "_law_same" s_same ["_law_actual", "_law_due"] f_same fd_same)
    (D_binary : Dn K mg "_law_binary" s_binary ["_law_u_here"] f_binary fd_binary)
    (D_l_parameter : Dn K mg "_law_parameter" s_l_parameter ["_law_row"] f_l_parameter fd_l_parameter)
    (D_code : Dn K mg "_law_code" s_code ["_law_u_here", "_law_k"] f_code fd_code)
    (D_behind : Dn K mg "_law_behind" s_behind ["_law_row", "_law_u_here"] f_behind fd_behind)
    (D_u : Dn K mg "_law_u" s_u ["_law_number"] f_u fd_u)
    (D_written : Dn K mg "_law_written" s_written ["_law_some_here", "_law_first", "_law_start"] f_written fd_written)
    (D_mark : Dn K mg "_law_mark" s_mark ["_law_some_here"] f_mark fd_mark)
    (D_counts : Dn K mg "_law_counts" s_counts ["_law_size", "_law_many"] f_counts fd_counts)
    (D_heads : Dn K mg "_law_heads" s_heads ["_law_pool_here", "_law_many"] f_heads fd_heads)
    (D_some : Dn K mg "_law_some" s_some ["_law_pool_here", "_law_size"] f_some fd_some)
    (D_frame : Dn K mg "_law_frame" s_frame ["_law_head", "_law_some_here", "_law_start"] f_frame fd_frame)
    (D_tables : Dn K mg "_law_tables" s_tables ["_law_pool_here"] f_tables fd_tables)
    (D_stream : Dn K mg "_law_stream" s_stream ["_law_pool_here", "_law_many"] f_stream fd_stream)
    (D_check : Dn K mg "_law_check" s_check ["_law_before", "_law_body_here"] f_check fd_check)
    (D_body : Dn K mg "_law_body" s_body ["_law_record"] f_body fd_body)
    (D_lines : Dn K mg "_law_lines" s_lines ["_law_records"] f_lines fd_lines)
    (D_bad : Dn K mg "_law_bad" s_bad [] f_bad fd_bad)
    (D_told : Dn K mg "_law_told" s_told ["_law_value"] f_told fd_told)
    (D_recovered : Dn K mg "_law_recovered" s_recovered ["_law_value"] f_recovered fd_recovered)
    (D_marked : Dn K mg "_law_marked" s_marked ["_law_pool_here", "_law_body_here", "_law_check_here"] f_marked fd_marked)
    (D_with : Dn K mg "_law_with" s_with ["_law_lines_here", "_law_check_here", "_law_body_here"] f_with fd_with)
    (D_sizes_right : Dn K mg "_law_sizes_right" s_sizes_right ["_law_lines_here", "_law_records", "_law_check_here"] f_sizes_right fd_sizes_right)
    (a_law : PySem.W.nsIn K mainGlobals "law" = some (some (.ref f_law))) (l_law : K.lookup f_law = some ⟨oc_law, od_law, .func (PySem.W.fnOf "law" "law" (defArgs s_law) (defBody s_law) (defScope s_law) .none kV_law dc_law pm_law an_law cd_law ct_law), sl_law⟩) (c_law : PySem.W.codeIn K cd_law "law" = true) (k_law : PySem.W.keepIn K (.ref f_law) = true)
    (a_BLOCK_LIMIT : PySem.W.nsIn K mainGlobals "BLOCK_LIMIT" = some (some (.int 64 t_BLOCK_LIMIT)))
    (a_COUNT_LIMIT : PySem.W.nsIn K mainGlobals "COUNT_LIMIT" = some (some (.int 15 t_COUNT_LIMIT)))
    (a_SHAPE_LIMIT : PySem.W.nsIn K mainGlobals "SHAPE_LIMIT" = some (some (.int 3 t_SHAPE_LIMIT)))
    (a_WIDTH_LIMIT : PySem.W.nsIn K mainGlobals "WIDTH_LIMIT" = some (some (.int 8 t_WIDTH_LIMIT)))
    (a_LEVEL_LIMIT : PySem.W.nsIn K mainGlobals "LEVEL_LIMIT" = some (some (.int 5 t_LEVEL_LIMIT)))
    (a_STEP_LIMIT : PySem.W.nsIn K mainGlobals "STEP_LIMIT" = some (some (.int 64 t_STEP_LIMIT)))
    (a_MARK_MODULUS : PySem.W.nsIn K mainGlobals "MARK_MODULUS" = some (some (.int 9973 t_MARK_MODULUS)))
    (a_HALVED_COUNT : PySem.W.nsIn K mainGlobals "HALVED_COUNT" = some (some (.int 8 t_HALVED_COUNT)))
    (a_LONG_FORM : PySem.W.nsIn K mainGlobals "LONG_FORM" = some (some (.int 20 t_LONG_FORM)))
    (a_MARK_FACTOR : PySem.W.nsIn K mainGlobals "MARK_FACTOR" = some (some (.int 31 t_MARK_FACTOR)))
    (a_FRAME_ITEMS : PySem.W.nsIn K mainGlobals "FRAME_ITEMS" = some (some (.int 7 t_FRAME_ITEMS)))
    (a_SIGNS : PySem.W.nsIn K mainGlobals "SIGNS" = some (some (.str (Str.ofString "0123456789abcdefghijklmnopqrstuvwxyz -") t_SIGNS)))
    (a_CHECK_FACTOR : PySem.W.nsIn K mainGlobals "CHECK_FACTOR" = some (some (.int 41 t_CHECK_FACTOR)))
    (a_CHECK_MODULUS : PySem.W.nsIn K mainGlobals "CHECK_MODULUS" = some (some (.int 1000003 t_CHECK_MODULUS)))
    (a_CHECK_START : PySem.W.nsIn K mainGlobals "CHECK_START" = some (some (.int 1 t_CHECK_START)))
    (a_NO_BITS : PySem.W.nsIn K mainGlobals "NO_BITS" = some (some (.str (Str.ofString "-") t_NO_BITS)))
    (a_MARK : PySem.W.nsIn K mainGlobals "MARK" = some (some (.str (Str.ofString " #") t_MARK)))
    (a_DIGITS : PySem.W.nsIn K mainGlobals "DIGITS" = some (some (.str (Str.ofString "0123456789") t_DIGITS)))
    (a_DIGITS_LIMIT : PySem.W.nsIn K mainGlobals "DIGITS_LIMIT" = some (some (.int 4000 t_DIGITS_LIMIT)))
    {a_START t0 t1 a_HARD : Addr} {oS o0 o1 oH : Option Addr} {nS n0 n1 nH : Nat} {qS q0 q1 qH : Array (Option Value)} {b0 b1 d0 d1 bH dH : Tok} (zS : PySem.W.nsIn K mainGlobals "START" = some (some (.ref a_START))) (lS : K.lookup a_START = some ⟨.type "tuple", oS, .seq #[.ref t0, .ref t1] nS, qS⟩) (lt0 : K.lookup t0 = some ⟨.type "tuple", o0, .seq #[.int 2 b0, .int 1 d0] n0, q0⟩) (lt1 : K.lookup t1 = some ⟨.type "tuple", o1, .seq #[.int 2 b1, .int 1 d1] n1, q1⟩)
    (zH : PySem.W.nsIn K mainGlobals "HARD" = some (some (.ref a_HARD))) (lH : K.lookup a_HARD = some ⟨.type "tuple", oH, .seq #[.int 0 bH, .int 0 dH] nH, qH⟩)
     (z_sorted : PySem.W.nsIn K mainGlobals "sorted" = some none)
    {a_COEFFICIENTS ct0 ct1 ct2 ct3 : Addr} {oC co0 co1 co2 co3 : Option Addr} {nC cn0 cn1 cn2 cn3 : Nat} {qC cq0 cq1 cq2 cq3 : Array (Option Value)} {cb0 cb1 cb2 cb3 cd0 cd1 cd2 cd3 : Tok} (zC : PySem.W.nsIn K mainGlobals "COEFFICIENTS" = some (some (.ref a_COEFFICIENTS))) (lC : K.lookup a_COEFFICIENTS = some ⟨.type "tuple", oC, .seq #[.ref ct0, .ref ct1, .ref ct2, .ref ct3] nC, qC⟩)
    (l0 : K.lookup ct0 = some ⟨.type "tuple", co0, .seq #[.int (-1) cb0, .int 2 cd0] cn0, cq0⟩) (l1 : K.lookup ct1 = some ⟨.type "tuple", co1, .seq #[.int (-2) cb1, .int 3 cd1] cn1, cq1⟩)
    (l2 : K.lookup ct2 = some ⟨.type "tuple", co2, .seq #[.int 1 cb2, .int (-2) cd2] cn2, cq2⟩) (l3 : K.lookup ct3 = some ⟨.type "tuple", co3, .seq #[.int 2 cb3, .int (-3) cd3] cn3, cq3⟩)
     (z_dg1 : PySem.W.nsIn K cStatics "sys.int_max_str_digits" = some none)
     (z_dg2 : PySem.W.nsOkIn K cStatics = true)
    (z_int : PySem.W.nsIn K mainGlobals "int" = some none)
    (z_bool : PySem.W.nsIn K mainGlobals "bool" = some none)
    (z_str : PySem.W.nsIn K mainGlobals "str" = some none)
    (z_list : PySem.W.nsIn K mainGlobals "list" = some none)
    (z_tuple : PySem.W.nsIn K mainGlobals "tuple" = some none)
    (z_len : PySem.W.nsIn K mainGlobals "len" = some none)
    (z_abs : PySem.W.nsIn K mainGlobals "abs" = some none)
    (z_max : PySem.W.nsIn K mainGlobals "max" = some none)
    (z_min : PySem.W.nsIn K mainGlobals "min" = some none)
    (z_range : PySem.W.nsIn K mainGlobals "range" = some none)
    (z_zip : PySem.W.nsIn K mainGlobals "zip" = some none)
    (z_isinstance : PySem.W.nsIn K mainGlobals "isinstance" = some none)
    (z_enumerate : PySem.W.nsIn K mainGlobals "enumerate" = some none)
    (z_reversed : PySem.W.nsIn K mainGlobals "reversed" = some none)
    {C_Stream : Addr} (x_Stream : PySem.W.nsIn K mainGlobals "Stream" = some (some (.ref C_Stream))) (pg_Stream : PySem.W.plainGet K C_Stream Str.empty = true) (hd_Stream : PySem.W.hasDictIn K C_Stream = true) (po_Stream : PySem.W.plainOver K C_Stream = true) (sa_Stream : PySem.W.findIn K (.ref C_Stream) "__setattr__" = some (some (.builtin "object.__setattr__"))) (mk_Stream : PySem.W.makesIn K C_Stream = true) (kc_Stream : PySem.W.keepIn K (.ref C_Stream) = true)
    (na_Stream_held : PySem.W.findIn K (.ref C_Stream) "held" = some none)
    (na_Stream_read : PySem.W.findIn K (.ref C_Stream) "read" = some none)
    {C_JoinError C_ParseError C_InvalidStream : Addr}
    (x_JoinError : PySem.W.nsIn K mainGlobals "JoinError" = some (some (.ref C_JoinError)))
    (x_ParseError : PySem.W.nsIn K mainGlobals "ParseError" = some (some (.ref C_ParseError)))
    (x_InvalidStream : PySem.W.nsIn K mainGlobals "InvalidStream" = some (some (.ref C_InvalidStream)))
    {N_ParseError fI_ParseError : Addr} {nm_ParseError qn_ParseError : Str} {bs_ParseError : List Value} {sn_ParseError : List Str} {sb_ParseError : List Value} {ab_ParseError : Bool} {co_ParseError : Option Bool} {dd_ParseError : Option Addr} {m0_ParseError m1_ParseError m2_ParseError m3_ParseError m5_ParseError : Option Value} {odi_ParseError ani_ParseError : Option Addr} {sli_ParseError : Array (Option Value)} {oci_ParseError kVi_ParseError dci_ParseError pmi_ParseError cdi_ParseError cti_ParseError : Value}
    (xl_ParseError : K.lookup C_ParseError = some (PySem.excClassObj nm_ParseError qn_ParseError C_ParseError N_ParseError bs_ParseError [.ref C_JoinError, .type "ValueError", .type "Exception", .type "BaseException", .type "object"] true sn_ParseError sb_ParseError ab_ParseError co_ParseError dd_ParseError m0_ParseError m1_ParseError m2_ParseError m3_ParseError m5_ParseError "ValueError.__new__"))
    (sa_ParseError : PySem.W.findIn K (.ref C_ParseError) "__setattr__" = some (some (.builtin "object.__setattr__")))
    (ga_ParseError : PySem.W.findIn K (.ref C_ParseError) "__getattribute__" = some (some (.builtin "BaseException.__getattribute__")))
    (gg_ParseError : PySem.W.findIn K (.ref C_ParseError) "__getattr__" = some none)
    (nf_ParseError : PySem.W.findIn K (.ref C_ParseError) "line" = some none)
    (ic_ParseError : PySem.W.findIn K (.ref C_ParseError) "__init__" = some (some (.ref fI_ParseError)))
    (ti_ParseError : PySem.W.typeIn K (.ref fI_ParseError) = some (.type "function"))
    (cac_ParseError : PySem.W.findIn K (.ref C_ParseError) "__class__" = some (some (.builtin "object.__class__")))
    (cmc_ParseError : PySem.W.mroIn K C_ParseError (.type "object") = some true)
    (kc_ParseError : PySem.W.keepIn K (.ref C_ParseError) = true)
    (sB_ParseError : PySem.W.subIn K (.ref C_ParseError) (.type "BaseException") = some true)
    (tc_ParseError : PySem.W.typeIn K (.ref C_ParseError) = some (.type "type"))
    (hd_ParseError : PySem.W.hasDictIn K C_ParseError = true)
    (ss_ParseError : PySem.W.subIn K (.ref C_ParseError) (.ref C_ParseError) = some true)
    (li_ParseError : K.lookup fI_ParseError = some ⟨oci_ParseError, odi_ParseError, .func (PySem.W.fnOf "__init__" "ParseError.__init__" (defArgs s_init_ParseError) (defBody s_init_ParseError) (defScope s_init_ParseError) .none kVi_ParseError dci_ParseError pmi_ParseError ani_ParseError cdi_ParseError cti_ParseError), sli_ParseError⟩)
    (ci_ParseError : PySem.W.codeIn K cdi_ParseError "ParseError.__init__" = true)
    (ki_ParseError : PySem.W.keepIn K (.ref fI_ParseError) = true)
    {N_InvalidStream fI_InvalidStream : Addr} {nm_InvalidStream qn_InvalidStream : Str} {bs_InvalidStream : List Value} {sn_InvalidStream : List Str} {sb_InvalidStream : List Value} {ab_InvalidStream : Bool} {co_InvalidStream : Option Bool} {dd_InvalidStream : Option Addr} {m0_InvalidStream m1_InvalidStream m2_InvalidStream m3_InvalidStream m5_InvalidStream : Option Value} {odi_InvalidStream ani_InvalidStream : Option Addr} {sli_InvalidStream : Array (Option Value)} {oci_InvalidStream kVi_InvalidStream dci_InvalidStream pmi_InvalidStream cdi_InvalidStream cti_InvalidStream : Value}
    (xl_InvalidStream : K.lookup C_InvalidStream = some (PySem.excClassObj nm_InvalidStream qn_InvalidStream C_InvalidStream N_InvalidStream bs_InvalidStream [.ref C_JoinError, .type "ValueError", .type "Exception", .type "BaseException", .type "object"] true sn_InvalidStream sb_InvalidStream ab_InvalidStream co_InvalidStream dd_InvalidStream m0_InvalidStream m1_InvalidStream m2_InvalidStream m3_InvalidStream m5_InvalidStream "ValueError.__new__"))
    (sa_InvalidStream : PySem.W.findIn K (.ref C_InvalidStream) "__setattr__" = some (some (.builtin "object.__setattr__")))
    (ga_InvalidStream : PySem.W.findIn K (.ref C_InvalidStream) "__getattribute__" = some (some (.builtin "BaseException.__getattribute__")))
    (gg_InvalidStream : PySem.W.findIn K (.ref C_InvalidStream) "__getattr__" = some none)
    (nf_InvalidStream : PySem.W.findIn K (.ref C_InvalidStream) "index" = some none)
    (ic_InvalidStream : PySem.W.findIn K (.ref C_InvalidStream) "__init__" = some (some (.ref fI_InvalidStream)))
    (ti_InvalidStream : PySem.W.typeIn K (.ref fI_InvalidStream) = some (.type "function"))
    (cac_InvalidStream : PySem.W.findIn K (.ref C_InvalidStream) "__class__" = some (some (.builtin "object.__class__")))
    (cmc_InvalidStream : PySem.W.mroIn K C_InvalidStream (.type "object") = some true)
    (kc_InvalidStream : PySem.W.keepIn K (.ref C_InvalidStream) = true)
    (sB_InvalidStream : PySem.W.subIn K (.ref C_InvalidStream) (.type "BaseException") = some true)
    (tc_InvalidStream : PySem.W.typeIn K (.ref C_InvalidStream) = some (.type "type"))
    (hd_InvalidStream : PySem.W.hasDictIn K C_InvalidStream = true)
    (ss_InvalidStream : PySem.W.subIn K (.ref C_InvalidStream) (.ref C_InvalidStream) = some true)
    (li_InvalidStream : K.lookup fI_InvalidStream = some ⟨oci_InvalidStream, odi_InvalidStream, .func (PySem.W.fnOf "__init__" "InvalidStream.__init__" (defArgs s_init_InvalidStream) (defBody s_init_InvalidStream) (defScope s_init_InvalidStream) .none kVi_InvalidStream dci_InvalidStream pmi_InvalidStream ani_InvalidStream cdi_InvalidStream cti_InvalidStream), sli_InvalidStream⟩)
    (ci_InvalidStream : PySem.W.codeIn K cdi_InvalidStream "InvalidStream.__init__" = true)
    (ki_InvalidStream : PySem.W.keepIn K (.ref fI_InvalidStream) = true)
    (cn : PySem.W.specialIn K (.builtin "object.__class__") "__get__" = some (some (.builtin "getset_descriptor.__get__"))) (ct : PySem.W.takesIn K (.builtin "object.__class__") = some true)
    (u_ParseError_JoinError : PySem.W.subIn K (.ref C_ParseError) (.ref C_JoinError) = some true) (n_ParseError_JoinError : C_ParseError ≠ C_JoinError)
    (y_JoinError : PySem.W.typeIn K (.ref C_JoinError) = some (.type "type")) (i_JoinError : PySem.W.isClsIn K C_JoinError = true)
    (u_ParseError_InvalidStream : PySem.W.subIn K (.ref C_ParseError) (.ref C_InvalidStream) = some false) (n_ParseError_InvalidStream : C_ParseError ≠ C_InvalidStream)
    (y_InvalidStream : PySem.W.typeIn K (.ref C_InvalidStream) = some (.type "type")) (i_InvalidStream : PySem.W.isClsIn K C_InvalidStream = true)
    (u_InvalidStream_JoinError : PySem.W.subIn K (.ref C_InvalidStream) (.ref C_JoinError) = some true) (n_InvalidStream_JoinError : C_InvalidStream ≠ C_JoinError)
    (u_InvalidStream_ParseError : PySem.W.subIn K (.ref C_InvalidStream) (.ref C_ParseError) = some false) (n_InvalidStream_ParseError : C_InvalidStream ≠ C_ParseError)
    (y_ParseError : PySem.W.typeIn K (.ref C_ParseError) = some (.type "type")) (i_ParseError : PySem.W.isClsIn K C_ParseError = true)
    (w_InvalidStream_ParseError : PySem.W.subIn K (.ref C_InvalidStream) (.ref C_ParseError) = some false)
    {f_Stream___init__ : Addr} {od_Stream___init__ an_Stream___init__ : Option Addr} {sl_Stream___init__ : Array (Option Value)} {oc_Stream___init__ kV_Stream___init__ dc_Stream___init__ pm_Stream___init__ cd_Stream___init__ ct_Stream___init__ : Value}
    (at_Stream___init__ : PySem.W.findIn K (.ref C_Stream) "__init__" = some (some (.ref f_Stream___init__))) (if_Stream___init__ : PySem.W.isFn K (.ref f_Stream___init__) = true)
    (l_Stream___init__ : K.lookup f_Stream___init__ = some ⟨oc_Stream___init__, od_Stream___init__, .func (PySem.W.fnOf "__init__" "Stream.__init__" (defArgs s_Stream___init__) (defBody s_Stream___init__) (defScope s_Stream___init__) .none kV_Stream___init__ dc_Stream___init__ pm_Stream___init__ an_Stream___init__ cd_Stream___init__ ct_Stream___init__), sl_Stream___init__⟩) (c_Stream___init__ : PySem.W.codeIn K cd_Stream___init__ "Stream.__init__" = true) (k_Stream___init__ : PySem.W.keepIn K (.ref f_Stream___init__) = true)
    : ∃ fd : FuncData, (∀ (s : Shared) (v : Value), BindsTo s fd ⟨[v], []⟩ [("_law_script", v)]) ∧ ∀ base : Heap, K.In base → base.Ns mainGlobals mg → FnOk l.prog w K mg base CX0 14 fa fd ["_law_script"] (spLaw K) := by
  have e := hfa.symm.trans (PySem.W.mg_of X G a_law)
  cases e
  have bi : Bi mg := ⟨PySem.W.mg_none_of X G z_int, PySem.W.mg_none_of X G z_bool, PySem.W.mg_none_of X G z_str, PySem.W.mg_none_of X G z_list, PySem.W.mg_none_of X G z_tuple, PySem.W.mg_none_of X G z_len, PySem.W.mg_none_of X G z_abs, PySem.W.mg_none_of X G z_max, PySem.W.mg_none_of X G z_min, PySem.W.mg_none_of X G z_range, PySem.W.mg_none_of X G z_zip, PySem.W.mg_none_of X G z_isinstance, PySem.W.mg_none_of X G z_enumerate, PySem.W.mg_none_of X G z_reversed⟩
  have F_law := fun_mk (st := s_law) l_law c_law k_law
  have D_law : Dn K mg "law" s_law ["_law_script"] _ _ := ⟨F_law, PySem.W.mg_of X G a_law, F_law.binds (ps := ["_law_script"]) fun _ _ _ _ _ _ us hl => match us, hl with | [_], _ => rfl⟩
  have TC_Stream : StmC K mg C_Stream := ⟨⟨pg_Stream, hd_Stream, po_Stream, sa_Stream⟩, PySem.W.mg_of X G x_Stream, mk_Stream, kc_Stream, na_Stream_held, na_Stream_read⟩
  have F_Stream___init__ := fun_mk (st := s_Stream___init__) l_Stream___init__ c_Stream___init__ k_Stream___init__
  have D_Stream___init__ : Mn K C_Stream "__init__" "Stream.__init__" s_Stream___init__ ["self", "records"] _ _ := ⟨F_Stream___init__, ⟨at_Stream___init__, if_Stream___init__, k_Stream___init__⟩, F_Stream___init__.binds (ps := ["self", "records"]) fun _ _ _ _ _ _ us hl => match us, hl with | [_, _], _ => rfl⟩
  have F_init_ParseError := fun_mk (st := s_init_ParseError) li_ParseError ci_ParseError ki_ParseError
  have B_init_ParseError := F_init_ParseError.binds (ps := ["self", "line"]) fun _ _ _ _ _ _ us hl => match us, hl with | [_, _], _ => rfl
  have E_ParseError : EC K mg "ParseError" "line" C_ParseError fI_ParseError := ec_mk (PySem.W.mg_of X G x_ParseError) xl_ParseError rfl sa_ParseError ga_ParseError gg_ParseError nf_ParseError ic_ParseError ti_ParseError cac_ParseError cn ct cmc_ParseError kc_ParseError sB_ParseError tc_ParseError hd_ParseError ss_ParseError
  have F_init_InvalidStream := fun_mk (st := s_init_InvalidStream) li_InvalidStream ci_InvalidStream ki_InvalidStream
  have B_init_InvalidStream := F_init_InvalidStream.binds (ps := ["self", "index"]) fun _ _ _ _ _ _ us hl => match us, hl with | [_, _], _ => rfl
  have E_InvalidStream : EC K mg "InvalidStream" "index" C_InvalidStream fI_InvalidStream := ec_mk (PySem.W.mg_of X G x_InvalidStream) xl_InvalidStream rfl sa_InvalidStream ga_InvalidStream gg_InvalidStream nf_InvalidStream ic_InvalidStream ti_InvalidStream cac_InvalidStream cn ct cmc_InvalidStream kc_InvalidStream sB_InvalidStream tc_InvalidStream hd_InvalidStream ss_InvalidStream
  have g_JoinError := PySem.W.mg_of X G x_JoinError
  have g_ParseError := PySem.W.mg_of X G x_ParseError
  have g_InvalidStream := PySem.W.mg_of X G x_InvalidStream
  have q_ParseError_JoinError := kit_ref u_ParseError_JoinError n_ParseError_JoinError i_JoinError y_JoinError
  have q_ParseError_InvalidStream := kit_ref u_ParseError_InvalidStream n_ParseError_InvalidStream i_InvalidStream y_InvalidStream
  have q_InvalidStream_JoinError := kit_ref u_InvalidStream_JoinError n_InvalidStream_JoinError i_JoinError y_JoinError
  have q_InvalidStream_ParseError := kit_ref u_InvalidStream_ParseError n_InvalidStream_ParseError i_ParseError y_ParseError
  have m_InvalidStream_ParseError := PySem.W.exm_ref sB_ParseError hd_ParseError tc_ParseError w_InvalidStream_ParseError
  refine ⟨PySem.W.fnOf "law" "law" (defArgs s_law) (defBody s_law) (defScope s_law) .none kV_law dc_law pm_law an_law cd_law ct_law, fun s v => .of_eq rfl, fun base _ _ => ?_⟩
  have hSt := tupV_K (xs := [.ref t0, .ref t1]) lS (Nat.le_of_ble_eq_true rfl) (.cons rfl (.cons rfl .nil))
  have hS0 := tupV_K (xs := [.int 2, .int 1]) lt0 (Nat.le_of_ble_eq_true rfl) (.cons ⟨_, rfl⟩ (.cons ⟨_, rfl⟩ .nil))
  have hS1 := tupV_K (xs := [.int 2, .int 1]) lt1 (Nat.le_of_ble_eq_true rfl) (.cons ⟨_, rfl⟩ (.cons ⟨_, rfl⟩ .nil))
  have hHd := tupV_K (xs := [.int 0, .int 0]) lH (Nat.le_of_ble_eq_true rfl) (.cons ⟨_, rfl⟩ (.cons ⟨_, rfl⟩ .nil))
  have hCo := seqT_K (xs := [.ref ct0, .ref ct1, .ref ct2, .ref ct3]) lC (Nat.le_of_ble_eq_true rfl) (.cons rfl (.cons rfl (.cons rfl (.cons rfl .nil))))
  have hC0 := seqT_K (xs := [.int (-1), .int 2]) l0 (Nat.le_of_ble_eq_true rfl) (.cons ⟨_, rfl⟩ (.cons ⟨_, rfl⟩ .nil))
  have hC1 := seqT_K (xs := [.int (-2), .int 3]) l1 (Nat.le_of_ble_eq_true rfl) (.cons ⟨_, rfl⟩ (.cons ⟨_, rfl⟩ .nil))
  have hC2 := seqT_K (xs := [.int 1, .int (-2)]) l2 (Nat.le_of_ble_eq_true rfl) (.cons ⟨_, rfl⟩ (.cons ⟨_, rfl⟩ .nil))
  have hC3 := seqT_K (xs := [.int 2, .int (-3)]) l3 (Nat.le_of_ble_eq_true rfl) (.cons ⟨_, rfl⟩ (.cons ⟨_, rfl⟩ .nil))
  have zdg : DgK K := ⟨z_dg2, z_dg1⟩
  have T_ParseError : ErrK l.prog w K mg base "ParseError" "line" C_ParseError := ⟨_, _, E_ParseError, ok_init_ParseError F_init_ParseError E_ParseError, B_init_ParseError⟩
  have T_InvalidStream : ErrK l.prog w K mg base "InvalidStream" "index" C_InvalidStream := ⟨_, _, E_InvalidStream, ok_init_InvalidStream F_init_InvalidStream E_InvalidStream, B_init_InvalidStream⟩
  have G_take := ok_take (P := l.prog) (w := w) (base := base) D_take bi     
  have G_pool := ok_pool (P := l.prog) (w := w) (base := base) D_pool bi     
  have G_binary := ok_binary (P := l.prog) (w := w) (base := base) D_binary bi     
  have G_l_parameter := ok_l_parameter (P := l.prog) (w := w) (base := base) D_l_parameter bi     
  have G_code := ok_code (P := l.prog) (w := w) (base := base) D_code bi G_binary D_binary    
  have G_behind := ok_behind (P := l.prog) (w := w) (base := base) D_behind bi     
  have G_u := ok_u (P := l.prog) (w := w) (base := base) D_u bi     
  have G_written := ok_written (P := l.prog) (w := w) (base := base) D_written bi G_code D_code G_u D_u G_l_parameter D_l_parameter G_behind D_behind    
  have G_mark := ok_mark (P := l.prog) (w := w) (base := base) D_mark bi G_u D_u    
  have G_counts := ok_counts (P := l.prog) (w := w) (base := base) D_counts bi     
  have G_tables := ok_tables (P := l.prog) (w := w) (base := base) D_tables bi G_take D_take    
  have G_some := ok_some (P := l.prog) (w := w) (base := base) D_some bi G_take D_take    
  have G_frame := ok_frame (P := l.prog) (w := w) (base := base) D_frame bi G_counts D_counts G_written D_written G_mark D_mark    
  have G_heads := ok_heads (P := l.prog) (w := w) (base := base) D_heads bi G_take D_take    
  have G_stream := ok_stream (P := l.prog) (w := w) (base := base) D_stream bi G_take D_take G_heads D_heads G_tables D_tables G_some D_some G_frame D_frame    
  have G_is_integer := ok_is_integer (P := l.prog) (w := w) (base := base) D_is_integer bi     
  have G_is_within := ok_is_within (P := l.prog) (w := w) (base := base) D_is_within bi G_is_integer D_is_integer    
  have G_is_joint := ok_is_joint (P := l.prog) (w := w) (base := base) D_is_joint bi G_is_within D_is_within    ⟨_, PySem.W.mg_of X G a_WIDTH_LIMIT⟩ ⟨_, PySem.W.mg_of X G a_SHAPE_LIMIT⟩
  have G_is_table := ok_is_table (P := l.prog) (w := w) (base := base) D_is_table bi G_is_integer D_is_integer G_is_within D_is_within    ⟨_, PySem.W.mg_of X G a_COUNT_LIMIT⟩
  have G_is_tables := ok_is_tables (P := l.prog) (w := w) (base := base) D_is_tables bi G_is_table D_is_table    
  have G_is_bits := ok_is_bits (P := l.prog) (w := w) (base := base) D_is_bits bi     
  have G_is_layout := ok_is_layout (P := l.prog) (w := w) (base := base) D_is_layout bi G_is_within D_is_within G_is_joint D_is_joint    ⟨_, PySem.W.mg_of X G a_BLOCK_LIMIT⟩ ⟨_, PySem.W.mg_of X G a_LEVEL_LIMIT⟩ ⟨_, PySem.W.mg_of X G a_STEP_LIMIT⟩
  have G_is_frame := ok_is_frame (P := l.prog) (w := w) (base := base) D_is_frame bi G_is_layout D_is_layout G_is_within D_is_within G_is_bits D_is_bits    ⟨_, PySem.W.mg_of X G a_FRAME_ITEMS⟩ ⟨_, PySem.W.mg_of X G a_MARK_MODULUS⟩
  have G_is_state := ok_is_state (P := l.prog) (w := w) (base := base) D_is_state bi G_is_tables D_is_tables    
  have G_is_record := ok_is_record (P := l.prog) (w := w) (base := base) D_is_record bi G_is_state D_is_state G_is_frame D_is_frame    
  have G_check_within := ok_check_within (P := l.prog) (w := w) (base := base) D_check_within bi G_is_within D_is_within    
  have G_check_integer := ok_check_integer (P := l.prog) (w := w) (base := base) D_check_integer bi G_is_integer D_is_integer    
  have G_check_items := ok_check_items (P := l.prog) (w := w) (base := base) D_check_items bi G_is_integer D_is_integer    
  have G_check_block := ok_check_block (P := l.prog) (w := w) (base := base) D_check_block bi G_check_items D_check_items    ⟨_, PySem.W.mg_of X G a_BLOCK_LIMIT⟩
  have G_coarse_count := ok_coarse_count (P := l.prog) (w := w) (base := base) D_coarse_count bi G_check_within D_check_within    ⟨_, PySem.W.mg_of X G a_BLOCK_LIMIT⟩ ⟨_, PySem.W.mg_of X G a_LEVEL_LIMIT⟩
  have G_parameter := ok_parameter (P := l.prog) (w := w) (base := base) D_parameter bi G_is_table D_is_table    
  have G_table_behind := ok_table_behind (P := l.prog) (w := w) (base := base) D_table_behind bi     ⟨_, PySem.W.mg_of X G a_COUNT_LIMIT⟩ ⟨_, PySem.W.mg_of X G a_HALVED_COUNT⟩
  have G_code_number := ok_code_number (P := l.prog) (w := w) (base := base) D_code_number bi     
  have G_number_with := ok_number_with (P := l.prog) (w := w) (base := base) D_number_with bi     
  have G_read_code := ok_read_code (P := l.prog) (w := w) (base := base) D_read_code bi     ⟨_, PySem.W.mg_of X G a_LONG_FORM⟩
  have G_check_coding := ok_check_coding (P := l.prog) (w := w) (base := base) D_check_coding bi G_check_within D_check_within G_is_tables D_is_tables    
  have G_read_numbers := ok_read_numbers (P := l.prog) (w := w) (base := base) D_read_numbers bi G_check_within D_check_within G_check_coding D_check_coding G_parameter D_parameter G_read_code D_read_code G_number_with D_number_with G_table_behind D_table_behind    ⟨_, PySem.W.mg_of X G a_BLOCK_LIMIT⟩
  have G_mark_of := ok_mark_of (P := l.prog) (w := w) (base := base) D_mark_of bi G_check_block D_check_block G_code_number D_code_number    ⟨_, PySem.W.mg_of X G a_MARK_FACTOR⟩ ⟨_, PySem.W.mg_of X G a_MARK_MODULUS⟩
  have G_read_frame := ok_read_frame (P := l.prog) (w := w) (base := base) D_read_frame bi G_read_numbers D_read_numbers G_coarse_count D_coarse_count G_mark_of D_mark_of    
  have G_is_table_A := ok_is_table_A (P := l.prog) (w := w) (base := base) D_is_table bi G_is_integer D_is_integer G_is_within D_is_within    ⟨_, PySem.W.mg_of X G a_COUNT_LIMIT⟩
  have G_is_tables_A := ok_is_tables_A (P := l.prog) (w := w) (base := base) D_is_tables bi G_is_table D_is_table G_is_table_A   
  have G_is_bits_A := ok_is_bits_A (P := l.prog) (w := w) (base := base) D_is_bits bi     
  have G_is_layout_A := ok_is_layout_A (P := l.prog) (w := w) (base := base) D_is_layout bi G_is_within D_is_within G_is_joint D_is_joint    ⟨_, PySem.W.mg_of X G a_BLOCK_LIMIT⟩ ⟨_, PySem.W.mg_of X G a_LEVEL_LIMIT⟩ ⟨_, PySem.W.mg_of X G a_STEP_LIMIT⟩
  have G_is_state_A := ok_is_state_A (P := l.prog) (w := w) (base := base) D_is_state bi G_is_tables D_is_tables G_is_tables_A   
  have G_is_frame_A := ok_is_frame_A (P := l.prog) (w := w) (base := base) D_is_frame bi G_is_layout D_is_layout G_is_within D_is_within G_is_bits D_is_bits G_is_layout_A G_is_bits_A   ⟨_, PySem.W.mg_of X G a_FRAME_ITEMS⟩ ⟨_, PySem.W.mg_of X G a_MARK_MODULUS⟩
  have G_is_record_A := ok_is_record_A (P := l.prog) (w := w) (base := base) D_is_record bi G_is_state D_is_state G_is_frame D_is_frame G_is_state_A G_is_frame_A   
  have G_number_of := ok_number_of (P := l.prog) (w := w) (base := base) D_number_of bi     ⟨_, PySem.W.mg_of X G a_DIGITS⟩ ⟨_, PySem.W.mg_of X G a_DIGITS_LIMIT⟩ zdg
  have G_record_of := ok_record_of (P := l.prog) (w := w) (base := base) D_record_of bi G_number_of D_number_of G_is_record D_is_record G_is_record_A   ⟨_, PySem.W.mg_of X G a_NO_BITS⟩
  have G_check_behind := ok_check_behind (P := l.prog) (w := w) (base := base) D_check_behind bi     ⟨_, PySem.W.mg_of X G a_SIGNS⟩ ⟨_, PySem.W.mg_of X G a_CHECK_FACTOR⟩ ⟨_, PySem.W.mg_of X G a_CHECK_MODULUS⟩
  have G_valid_records := ok_valid_records (P := l.prog) (w := w) (base := base) D_valid_records bi G_record_of D_record_of G_check_behind D_check_behind   T_ParseError ⟨_, PySem.W.mg_of X G a_MARK⟩ ⟨_, PySem.W.mg_of X G a_CHECK_START⟩
  have G_recovered_records := ok_recovered_records (P := l.prog) (w := w) (base := base) D_recovered_records bi G_valid_records D_valid_records    
  have G_read_numbers_0 := ok_read_numbers_0 (P := l.prog) (w := w) (base := base) D_read_numbers bi G_check_within D_check_within G_check_coding D_check_coding G_parameter D_parameter G_read_code D_read_code G_number_with D_number_with G_table_behind D_table_behind    ⟨_, PySem.W.mg_of X G a_BLOCK_LIMIT⟩
  have G_read_frame_0 := ok_read_frame_0 (P := l.prog) (w := w) (base := base) D_read_frame bi G_read_numbers D_read_numbers G_coarse_count D_coarse_count G_mark_of D_mark_of G_read_numbers_0   
  have G_read_frame_O := fn_or (so := (fun vs H Q E => spRfM K vs H Q E ∨ spRf0 K vs H Q E)) (n := 7) G_read_frame G_read_frame_0 (by decide) (by decide) (fun _ _ _ _ h => h)
  have G_read_frames := ok_read_frames (P := l.prog) (w := w) (base := base) D_read_frames bi G_read_frame D_read_frame G_read_frame_0 G_read_frame_O  T_InvalidStream (PySem.W.mg_of X G zS) hSt hS0 hS1 (PySem.W.mg_of X G zH) hHd
  have G_check_records := ok_check_records (P := l.prog) (w := w) (base := base) D_check_records bi G_is_record D_is_record G_is_record_A   
  have G_Stream___init__ := ok_Stream___init__ (P := l.prog) (w := w) (base := base) D_Stream___init__ bi G_check_records D_check_records G_read_frames D_read_frames  TC_Stream  
  have G_parse_stream := ok_parse_stream (P := l.prog) (w := w) (base := base) D_parse_stream bi G_valid_records D_valid_records G_Stream___init__ D_Stream___init__  TC_Stream T_ParseError 
  have G_check := ok_check (P := l.prog) (w := w) (base := base) D_check bi     
  have G_body := ok_body (P := l.prog) (w := w) (base := base) D_body bi     
  have G_lines := ok_lines (P := l.prog) (w := w) (base := base) D_lines bi G_body D_body G_check D_check    
  have G_bad := ok_bad (P := l.prog) (w := w) (base := base) D_bad bi     
  have G_told := ok_told (P := l.prog) (w := w) (base := base) D_told bi G_parse_stream D_parse_stream   T_ParseError T_InvalidStream m_InvalidStream_ParseError g_JoinError q_ParseError_JoinError q_ParseError_InvalidStream q_InvalidStream_JoinError q_InvalidStream_ParseError
  have G_recovered := ok_recovered (P := l.prog) (w := w) (base := base) D_recovered bi G_recovered_records D_recovered_records   T_ParseError 
  have G_marked := ok_marked (P := l.prog) (w := w) (base := base) D_marked bi G_take D_take G_check D_check    
  have G_with := ok_with (P := l.prog) (w := w) (base := base) D_with bi G_check D_check    
  have G_same0 := ok_same0 (P := l.prog) (w := w) (base := base) D_same bi
  have G_same1 := ok_sameS (P := l.prog) (w := w) (base := base) D_same bi G_same0
  have G_same2 := ok_sameS (P := l.prog) (w := w) (base := base) D_same bi G_same1
  have G_same3 := ok_sameS (P := l.prog) (w := w) (base := base) D_same bi G_same2
  have G_same4 := ok_sameS (P := l.prog) (w := w) (base := base) D_same bi G_same3
  have G_same := G_same4
  have G_sizes_right := ok_sizes_right (P := l.prog) (w := w) (base := base) D_sizes_right bi G_with D_with G_recovered D_recovered G_told D_told G_same D_same    zdg
  exact ok_law D_law bi G_pool D_pool G_take D_take G_stream D_stream G_same D_same G_told D_told G_recovered D_recovered G_bad D_bad G_marked D_marked G_lines D_lines G_body D_body G_check D_check G_sizes_right D_sizes_right
end Z
open PySem PySem.W PyProof.Rows
set_option maxHeartbeats 0 in
theorem PySem.Challenge.cw_framejoins_k86_lines_refused_holds : PySem.Challenge.rw_framejoins_k86_lines_refused.Holds := by
  w_on; refine headTop ?_
  k_fill
  refine L2.walk_of (l := PySem.Challenge.rw_framejoins_k86_lines_refused) (n := 63) (k := 14) (x := "_law_script") (CX := fun _ => L2.CX0) (sp := fun w => Z.spLaw _) rfl (by decide) rfl ⟨rfl, by decide, by decide⟩ (fun w h Y => PySem.W.kIn_of Y) ?F (fun _ _ a ns hl _ hS => ⟨a, ns, rfl, hS, hl, fun _ => rfl⟩) (fun _ _ _ _ _ h => h)
  case F =>
    intro w mg fa h KX G hmg
    refine' Z.all_mk KX G hmg (Z.mkD_is_integer KX G ?a_is_integer ?l_is_integer ?c_is_integer ?k_is_integer) (Z.mkD_is_within KX G ?a_is_within ?l_is_within ?c_is_within ?k_is_within) (Z.mkD_check_integer KX G ?a_check_integer ?l_check_integer ?c_check_integer ?k_check_integer) (Z.mkD_check_within KX G ?a_check_within ?l_check_within ?c_check_within ?k_check_within) (Z.mkD_check_items KX G ?a_check_items ?l_check_items ?c_check_items ?k_check_items) (Z.mkD_check_block KX G ?a_check_block ?l_check_block ?c_check_block ?k_check_block) (Z.mkD_is_joint KX G ?a_is_joint ?l_is_joint ?c_is_joint ?k_is_joint) (Z.mkD_coarse_count KX G ?a_coarse_count ?l_coarse_count ?c_coarse_count ?k_coarse_count) (Z.mkD_is_table KX G ?a_is_table ?l_is_table ?c_is_table ?k_is_table) (Z.mkD_is_tables KX G ?a_is_tables ?l_is_tables ?c_is_tables ?k_is_tables) (Z.mkD_parameter KX G ?a_parameter ?l_parameter ?c_parameter ?k_parameter) (Z.mkD_table_behind KX G ?a_table_behind ?l_table_behind ?c_table_behind ?k_table_behind) (Z.mkD_code_number KX G ?a_code_number ?l_code_number ?c_code_number ?k_code_number) (Z.mkD_number_with KX G ?a_number_with ?l_number_with ?c_number_with ?k_number_with) (Z.mkD_read_numbers KX G ?a_read_numbers ?l_read_numbers ?c_read_numbers ?k_read_numbers) (Z.mkD_check_coding KX G ?a_check_coding ?l_check_coding ?c_check_coding ?k_check_coding) (Z.mkD_read_code KX G ?a_read_code ?l_read_code ?c_read_code ?k_read_code) (Z.mkD_mark_of KX G ?a_mark_of ?l_mark_of ?c_mark_of ?k_mark_of) (Z.mkD_is_record KX G ?a_is_record ?l_is_record ?c_is_record ?k_is_record) (Z.mkD_is_state KX G ?a_is_state ?l_is_state ?c_is_state ?k_is_state) (Z.mkD_is_frame KX G ?a_is_frame ?l_is_frame ?c_is_frame ?k_is_frame) (Z.mkD_is_layout KX G ?a_is_layout ?l_is_layout ?c_is_layout ?k_is_layout) (Z.mkD_is_bits KX G ?a_is_bits ?l_is_bits ?c_is_bits ?k_is_bits) (Z.mkD_read_frame KX G ?a_read_frame ?l_read_frame ?c_read_frame ?k_read_frame) (Z.mkD_check_records KX G ?a_check_records ?l_check_records ?c_check_records ?k_check_records) (Z.mkD_read_frames KX G ?a_read_frames ?l_read_frames ?c_read_frames ?k_read_frames) (Z.mkD_check_behind KX G ?a_check_behind ?l_check_behind ?c_check_behind ?k_check_behind) (Z.mkD_recovered_records KX G ?a_recovered_records ?l_recovered_records ?c_recovered_records ?k_recovered_records) (Z.mkD_parse_stream KX G ?a_parse_stream ?l_parse_stream ?c_parse_stream ?k_parse_stream) (Z.mkD_valid_records KX G ?a_valid_records ?l_valid_records ?c_valid_records ?k_valid_records) (Z.mkD_record_of KX G ?a_record_of ?l_record_of ?c_record_of ?k_record_of) (Z.mkD_number_of KX G ?a_number_of ?l_number_of ?c_number_of ?k_number_of) (Z.mkD_pool KX G ?a_pool ?l_pool ?c_pool ?k_pool) (Z.mkD_take KX G ?a_take ?l_take ?c_take ?k_take) (Z.mkD_same KX G ?a_same ?l_same ?c_same ?k_same) (Z.mkD_binary KX G ?a_binary ?l_binary ?c_binary ?k_binary) (Z.mkD_l_parameter KX G ?a_l_parameter ?l_l_parameter ?c_l_parameter ?k_l_parameter) (Z.mkD_code KX G ?a_code ?l_code ?c_code ?k_code) (Z.mkD_behind KX G ?a_behind ?l_behind ?c_behind ?k_behind) (Z.mkD_u KX G ?a_u ?l_u ?c_u ?k_u) (Z.mkD_written KX G ?a_written ?l_written ?c_written ?k_written) (Z.mkD_mark KX G ?a_mark ?l_mark ?c_mark ?k_mark) (Z.mkD_counts KX G ?a_counts ?l_counts ?c_counts ?k_counts) (Z.mkD_heads KX G ?a_heads ?l_heads ?c_heads ?k_heads) (Z.mkD_some KX G ?a_some ?l_some ?c_some ?k_some) (Z.mkD_frame KX G ?a_frame ?l_frame ?c_frame ?k_frame) (Z.mkD_tables KX G ?a_tables ?l_tables ?c_tables ?k_tables) (Z.mkD_stream KX G ?a_stream ?l_stream ?c_stream ?k_stream) (Z.mkD_check KX G ?a_check ?l_check ?c_check ?k_check) (Z.mkD_body KX G ?a_body ?l_body ?c_body ?k_body) (Z.mkD_lines KX G ?a_lines ?l_lines ?c_lines ?k_lines) (Z.mkD_bad KX G ?a_bad ?l_bad ?c_bad ?k_bad) (Z.mkD_told KX G ?a_told ?l_told ?c_told ?k_told) (Z.mkD_recovered KX G ?a_recovered ?l_recovered ?c_recovered ?k_recovered) (Z.mkD_marked KX G ?a_marked ?l_marked ?c_marked ?k_marked) (Z.mkD_with KX G ?a_with ?l_with ?c_with ?k_with) (Z.mkD_sizes_right KX G ?a_sizes_right ?l_sizes_right ?c_sizes_right ?k_sizes_right) ?a_law ?l_law ?c_law ?k_law ?a_BLOCK_LIMIT ?a_COUNT_LIMIT ?a_SHAPE_LIMIT ?a_WIDTH_LIMIT ?a_LEVEL_LIMIT ?a_STEP_LIMIT ?a_MARK_MODULUS ?a_HALVED_COUNT ?a_LONG_FORM ?a_MARK_FACTOR ?a_FRAME_ITEMS ?a_SIGNS ?a_CHECK_FACTOR ?a_CHECK_MODULUS ?a_CHECK_START ?a_NO_BITS ?a_MARK ?a_DIGITS ?a_DIGITS_LIMIT ?zS ?lS ?lt0 ?lt1 ?zH ?lH ?z_sorted ?zC ?lC ?l0 ?l1 ?l2 ?l3 ?z_dg1 ?z_dg2 ?z_int ?z_bool ?z_str ?z_list ?z_tuple ?z_len ?z_abs ?z_max ?z_min ?z_range ?z_zip ?z_isinstance ?z_enumerate ?z_reversed ?x_Stream ?pg_Stream ?hd_Stream ?po_Stream ?sa_Stream ?mk_Stream ?kc_Stream ?na_Stream_held ?na_Stream_read ?x_JoinError ?x_ParseError ?x_InvalidStream ?xl_ParseError ?sa_ParseError ?ga_ParseError ?gg_ParseError ?nf_ParseError ?ic_ParseError ?ti_ParseError ?cac_ParseError ?cmc_ParseError ?kc_ParseError ?sB_ParseError ?tc_ParseError ?hd_ParseError ?ss_ParseError ?li_ParseError ?ci_ParseError ?ki_ParseError ?xl_InvalidStream ?sa_InvalidStream ?ga_InvalidStream ?gg_InvalidStream ?nf_InvalidStream ?ic_InvalidStream ?ti_InvalidStream ?cac_InvalidStream ?cmc_InvalidStream ?kc_InvalidStream ?sB_InvalidStream ?tc_InvalidStream ?hd_InvalidStream ?ss_InvalidStream ?li_InvalidStream ?ci_InvalidStream ?ki_InvalidStream ?cn ?ct ?u_ParseError_JoinError ?n_ParseError_JoinError ?y_JoinError ?i_JoinError ?u_ParseError_InvalidStream ?n_ParseError_InvalidStream ?y_InvalidStream ?i_InvalidStream ?u_InvalidStream_JoinError ?n_InvalidStream_JoinError ?u_InvalidStream_ParseError ?n_InvalidStream_ParseError ?y_ParseError ?i_ParseError ?w_InvalidStream_ParseError ?at_Stream___init__ ?if_Stream___init__ ?l_Stream___init__ ?c_Stream___init__ ?k_Stream___init__
    (case a_is_integer => as_aux_lemma => k_is); (case l_is_integer => as_aux_lemma => k_is); (case c_is_integer => as_aux_lemma => k_is); (case k_is_integer => as_aux_lemma => k_is); (case a_is_within => as_aux_lemma => k_is); (case l_is_within => as_aux_lemma => k_is); (case c_is_within => as_aux_lemma => k_is); (case k_is_within => as_aux_lemma => k_is); (case a_check_integer => as_aux_lemma => k_is); (case l_check_integer => as_aux_lemma => k_is); (case c_check_integer => as_aux_lemma => k_is); (case k_check_integer => as_aux_lemma => k_is); (case a_check_within => as_aux_lemma => k_is); (case l_check_within => as_aux_lemma => k_is); (case c_check_within => as_aux_lemma => k_is); (case k_check_within => as_aux_lemma => k_is); (case a_check_items => as_aux_lemma => k_is); (case l_check_items => as_aux_lemma => k_is); (case c_check_items => as_aux_lemma => k_is); (case k_check_items => as_aux_lemma => k_is); (case a_check_block => as_aux_lemma => k_is); (case l_check_block => as_aux_lemma => k_is); (case c_check_block => as_aux_lemma => k_is); (case k_check_block => as_aux_lemma => k_is); (case a_is_joint => as_aux_lemma => k_is); (case l_is_joint => as_aux_lemma => k_is); (case c_is_joint => as_aux_lemma => k_is); (case k_is_joint => as_aux_lemma => k_is); (case a_coarse_count => as_aux_lemma => k_is); (case l_coarse_count => as_aux_lemma => k_is); (case c_coarse_count => as_aux_lemma => k_is); (case k_coarse_count => as_aux_lemma => k_is); (case a_is_table => as_aux_lemma => k_is); (case l_is_table => as_aux_lemma => k_is); (case c_is_table => as_aux_lemma => k_is); (case k_is_table => as_aux_lemma => k_is); (case a_is_tables => as_aux_lemma => k_is); (case l_is_tables => as_aux_lemma => k_is); (case c_is_tables => as_aux_lemma => k_is); (case k_is_tables => as_aux_lemma => k_is); (case a_parameter => as_aux_lemma => k_is); (case l_parameter => as_aux_lemma => k_is); (case c_parameter => as_aux_lemma => k_is); (case k_parameter => as_aux_lemma => k_is); (case a_table_behind => as_aux_lemma => k_is); (case l_table_behind => as_aux_lemma => k_is); (case c_table_behind => as_aux_lemma => k_is); (case k_table_behind => as_aux_lemma => k_is); (case a_code_number => as_aux_lemma => k_is); (case l_code_number => as_aux_lemma => k_is); (case c_code_number => as_aux_lemma => k_is); (case k_code_number => as_aux_lemma => k_is); (case a_number_with => as_aux_lemma => k_is); (case l_number_with => as_aux_lemma => k_is); (case c_number_with => as_aux_lemma => k_is); (case k_number_with => as_aux_lemma => k_is); (case a_read_numbers => as_aux_lemma => k_is); (case l_read_numbers => as_aux_lemma => k_is); (case c_read_numbers => as_aux_lemma => k_is); (case k_read_numbers => as_aux_lemma => k_is); (case a_check_coding => as_aux_lemma => k_is); (case l_check_coding => as_aux_lemma => k_is); (case c_check_coding => as_aux_lemma => k_is); (case k_check_coding => as_aux_lemma => k_is); (case a_read_code => as_aux_lemma => k_is); (case l_read_code => as_aux_lemma => k_is); (case c_read_code => as_aux_lemma => k_is); (case k_read_code => as_aux_lemma => k_is); (case a_mark_of => as_aux_lemma => k_is); (case l_mark_of => as_aux_lemma => k_is); (case c_mark_of => as_aux_lemma => k_is); (case k_mark_of => as_aux_lemma => k_is); (case a_is_record => as_aux_lemma => k_is); (case l_is_record => as_aux_lemma => k_is); (case c_is_record => as_aux_lemma => k_is); (case k_is_record => as_aux_lemma => k_is); (case a_is_state => as_aux_lemma => k_is); (case l_is_state => as_aux_lemma => k_is); (case c_is_state => as_aux_lemma => k_is); (case k_is_state => as_aux_lemma => k_is); (case a_is_frame => as_aux_lemma => k_is); (case l_is_frame => as_aux_lemma => k_is); (case c_is_frame => as_aux_lemma => k_is); (case k_is_frame => as_aux_lemma => k_is); (case a_is_layout => as_aux_lemma => k_is); (case l_is_layout => as_aux_lemma => k_is); (case c_is_layout => as_aux_lemma => k_is); (case k_is_layout => as_aux_lemma => k_is); (case a_is_bits => as_aux_lemma => k_is); (case l_is_bits => as_aux_lemma => k_is); (case c_is_bits => as_aux_lemma => k_is); (case k_is_bits => as_aux_lemma => k_is); (case a_read_frame => as_aux_lemma => k_is); (case l_read_frame => as_aux_lemma => k_is); (case c_read_frame => as_aux_lemma => k_is); (case k_read_frame => as_aux_lemma => k_is); (case a_check_records => as_aux_lemma => k_is); (case l_check_records => as_aux_lemma => k_is); (case c_check_records => as_aux_lemma => k_is); (case k_check_records => as_aux_lemma => k_is); (case a_read_frames => as_aux_lemma => k_is); (case l_read_frames => as_aux_lemma => k_is); (case c_read_frames => as_aux_lemma => k_is); (case k_read_frames => as_aux_lemma => k_is); (case a_check_behind => as_aux_lemma => k_is); (case l_check_behind => as_aux_lemma => k_is); (case c_check_behind => as_aux_lemma => k_is); (case k_check_behind => as_aux_lemma => k_is); (case a_recovered_records => as_aux_lemma => k_is); (case l_recovered_records => as_aux_lemma => k_is); (case c_recovered_records => as_aux_lemma => k_is); (case k_recovered_records => as_aux_lemma => k_is); (case a_parse_stream => as_aux_lemma => k_is); (case l_parse_stream => as_aux_lemma => k_is); (case c_parse_stream => as_aux_lemma => k_is); (case k_parse_stream => as_aux_lemma => k_is); (case a_valid_records => as_aux_lemma => k_is); (case l_valid_records => as_aux_lemma => k_is); (case c_valid_records => as_aux_lemma => k_is); (case k_valid_records => as_aux_lemma => k_is); (case a_record_of => as_aux_lemma => k_is); (case l_record_of => as_aux_lemma => k_is); (case c_record_of => as_aux_lemma => k_is); (case k_record_of => as_aux_lemma => k_is); (case a_number_of => as_aux_lemma => k_is); (case l_number_of => as_aux_lemma => k_is); (case c_number_of => as_aux_lemma => k_is); (case k_number_of => as_aux_lemma => k_is); (case a_pool => as_aux_lemma => k_is); (case l_pool => as_aux_lemma => k_is); (case c_pool => as_aux_lemma => k_is); (case k_pool => as_aux_lemma => k_is); (case a_take => as_aux_lemma => k_is); (case l_take => as_aux_lemma => k_is); (case c_take => as_aux_lemma => k_is); (case k_take => as_aux_lemma => k_is); (case a_same => as_aux_lemma => k_is); (case l_same => as_aux_lemma => k_is); (case c_same => as_aux_lemma => k_is); (case k_same => as_aux_lemma => k_is); (case a_binary => as_aux_lemma => k_is); (case l_binary => as_aux_lemma => k_is); (case c_binary => as_aux_lemma => k_is); (case k_binary => as_aux_lemma => k_is); (case a_l_parameter => as_aux_lemma => k_is); (case l_l_parameter => as_aux_lemma => k_is); (case c_l_parameter => as_aux_lemma => k_is); (case k_l_parameter => as_aux_lemma => k_is); (case a_code => as_aux_lemma => k_is); (case l_code => as_aux_lemma => k_is); (case c_code => as_aux_lemma => k_is); (case k_code => as_aux_lemma => k_is); (case a_behind => as_aux_lemma => k_is); (case l_behind => as_aux_lemma => k_is); (case c_behind => as_aux_lemma => k_is); (case k_behind => as_aux_lemma => k_is); (case a_u => as_aux_lemma => k_is); (case l_u => as_aux_lemma => k_is); (case c_u => as_aux_lemma => k_is); (case k_u => as_aux_lemma => k_is); (case a_written => as_aux_lemma => k_is); (case l_written => as_aux_lemma => k_is); (case c_written => as_aux_lemma => k_is); (case k_written => as_aux_lemma => k_is); (case a_mark => as_aux_lemma => k_is); (case l_mark => as_aux_lemma => k_is); (case c_mark => as_aux_lemma => k_is); (case k_mark => as_aux_lemma => k_is); (case a_counts => as_aux_lemma => k_is); (case l_counts => as_aux_lemma => k_is); (case c_counts => as_aux_lemma => k_is); (case k_counts => as_aux_lemma => k_is); (case a_heads => as_aux_lemma => k_is); (case l_heads => as_aux_lemma => k_is); (case c_heads => as_aux_lemma => k_is); (case k_heads => as_aux_lemma => k_is); (case a_some => as_aux_lemma => k_is); (case l_some => as_aux_lemma => k_is); (case c_some => as_aux_lemma => k_is); (case k_some => as_aux_lemma => k_is); (case a_frame => as_aux_lemma => k_is); (case l_frame => as_aux_lemma => k_is); (case c_frame => as_aux_lemma => k_is); (case k_frame => as_aux_lemma => k_is); (case a_tables => as_aux_lemma => k_is); (case l_tables => as_aux_lemma => k_is); (case c_tables => as_aux_lemma => k_is); (case k_tables => as_aux_lemma => k_is); (case a_stream => as_aux_lemma => k_is); (case l_stream => as_aux_lemma => k_is); (case c_stream => as_aux_lemma => k_is); (case k_stream => as_aux_lemma => k_is); (case a_check => as_aux_lemma => k_is); (case l_check => as_aux_lemma => k_is); (case c_check => as_aux_lemma => k_is); (case k_check => as_aux_lemma => k_is); (case a_body => as_aux_lemma => k_is); (case l_body => as_aux_lemma => k_is); (case c_body => as_aux_lemma => k_is); (case k_body => as_aux_lemma => k_is); (case a_lines => as_aux_lemma => k_is); (case l_lines => as_aux_lemma => k_is); (case c_lines => as_aux_lemma => k_is); (case k_lines => as_aux_lemma => k_is); (case a_bad => as_aux_lemma => k_is); (case l_bad => as_aux_lemma => k_is); (case c_bad => as_aux_lemma => k_is); (case k_bad => as_aux_lemma => k_is); (case a_told => as_aux_lemma => k_is); (case l_told => as_aux_lemma => k_is); (case c_told => as_aux_lemma => k_is); (case k_told => as_aux_lemma => k_is); (case a_recovered => as_aux_lemma => k_is); (case l_recovered => as_aux_lemma => k_is); (case c_recovered => as_aux_lemma => k_is); (case k_recovered => as_aux_lemma => k_is); (case a_marked => as_aux_lemma => k_is); (case l_marked => as_aux_lemma => k_is); (case c_marked => as_aux_lemma => k_is); (case k_marked => as_aux_lemma => k_is); (case a_with => as_aux_lemma => k_is); (case l_with => as_aux_lemma => k_is); (case c_with => as_aux_lemma => k_is); (case k_with => as_aux_lemma => k_is); (case a_sizes_right => as_aux_lemma => k_is); (case l_sizes_right => as_aux_lemma => k_is); (case c_sizes_right => as_aux_lemma => k_is); (case k_sizes_right => as_aux_lemma => k_is); (case a_law => as_aux_lemma => k_is); (case l_law => as_aux_lemma => k_is); (case c_law => as_aux_lemma => k_is); (case k_law => as_aux_lemma => k_is); (case a_BLOCK_LIMIT => as_aux_lemma => k_is); (case a_COUNT_LIMIT => as_aux_lemma => k_is); (case a_SHAPE_LIMIT => as_aux_lemma => k_is); (case a_WIDTH_LIMIT => as_aux_lemma => k_is); (case a_LEVEL_LIMIT => as_aux_lemma => k_is); (case a_STEP_LIMIT => as_aux_lemma => k_is); (case a_MARK_MODULUS => as_aux_lemma => k_is); (case a_HALVED_COUNT => as_aux_lemma => k_is); (case a_LONG_FORM => as_aux_lemma => k_is); (case a_MARK_FACTOR => as_aux_lemma => k_is); (case a_FRAME_ITEMS => as_aux_lemma => k_is); (case a_SIGNS => as_aux_lemma => k_is); (case a_CHECK_FACTOR => as_aux_lemma => k_is); (case a_CHECK_MODULUS => as_aux_lemma => k_is); (case a_CHECK_START => as_aux_lemma => k_is); (case a_NO_BITS => as_aux_lemma => k_is); (case a_MARK => as_aux_lemma => k_is); (case a_DIGITS => as_aux_lemma => k_is); (case a_DIGITS_LIMIT => as_aux_lemma => k_is); (case zS => as_aux_lemma => k_is); (case lS => as_aux_lemma => k_is); (case lt0 => as_aux_lemma => k_is); (case lt1 => as_aux_lemma => k_is); (case zH => as_aux_lemma => k_is); (case lH => as_aux_lemma => k_is); (case z_sorted => as_aux_lemma => k_is); (case zC => as_aux_lemma => k_is); (case lC => as_aux_lemma => k_is); (case l0 => as_aux_lemma => k_is); (case l1 => as_aux_lemma => k_is); (case l2 => as_aux_lemma => k_is); (case l3 => as_aux_lemma => k_is); (case z_dg1 => as_aux_lemma => k_is); (case z_dg2 => as_aux_lemma => kernel_rfl); (case z_int => as_aux_lemma => k_is); (case z_bool => as_aux_lemma => k_is); (case z_str => as_aux_lemma => k_is); (case z_list => as_aux_lemma => k_is); (case z_tuple => as_aux_lemma => k_is); (case z_len => as_aux_lemma => k_is); (case z_abs => as_aux_lemma => k_is); (case z_max => as_aux_lemma => k_is); (case z_min => as_aux_lemma => k_is); (case z_range => as_aux_lemma => k_is); (case z_zip => as_aux_lemma => k_is); (case z_isinstance => as_aux_lemma => k_is); (case z_enumerate => as_aux_lemma => k_is); (case z_reversed => as_aux_lemma => k_is); (case x_Stream => as_aux_lemma => k_is); (case pg_Stream => as_aux_lemma => k_is); (case hd_Stream => as_aux_lemma => k_is); (case po_Stream => as_aux_lemma => k_is); (case sa_Stream => as_aux_lemma => k_is); (case mk_Stream => as_aux_lemma => k_is); (case kc_Stream => as_aux_lemma => k_is); (case na_Stream_held => as_aux_lemma => k_is); (case na_Stream_read => as_aux_lemma => k_is); (case x_JoinError => as_aux_lemma => k_is); (case x_ParseError => as_aux_lemma => k_is); (case x_InvalidStream => as_aux_lemma => k_is); (case xl_ParseError => as_aux_lemma => k_is); (case sa_ParseError => as_aux_lemma => k_is); (case ga_ParseError => as_aux_lemma => k_is); (case gg_ParseError => as_aux_lemma => k_is); (case nf_ParseError => as_aux_lemma => k_is); (case ic_ParseError => as_aux_lemma => k_is); (case ti_ParseError => as_aux_lemma => k_is); (case cac_ParseError => as_aux_lemma => k_is); (case cmc_ParseError => as_aux_lemma => k_is); (case kc_ParseError => as_aux_lemma => k_is); (case sB_ParseError => as_aux_lemma => k_is); (case tc_ParseError => as_aux_lemma => k_is); (case hd_ParseError => as_aux_lemma => k_is); (case ss_ParseError => as_aux_lemma => k_is); (case li_ParseError => as_aux_lemma => k_is); (case ci_ParseError => as_aux_lemma => k_is); (case ki_ParseError => as_aux_lemma => k_is); (case xl_InvalidStream => as_aux_lemma => k_is); (case sa_InvalidStream => as_aux_lemma => k_is); (case ga_InvalidStream => as_aux_lemma => k_is); (case gg_InvalidStream => as_aux_lemma => k_is); (case nf_InvalidStream => as_aux_lemma => k_is); (case ic_InvalidStream => as_aux_lemma => k_is); (case ti_InvalidStream => as_aux_lemma => k_is); (case cac_InvalidStream => as_aux_lemma => k_is); (case cmc_InvalidStream => as_aux_lemma => k_is); (case kc_InvalidStream => as_aux_lemma => k_is); (case sB_InvalidStream => as_aux_lemma => k_is); (case tc_InvalidStream => as_aux_lemma => k_is); (case hd_InvalidStream => as_aux_lemma => k_is); (case ss_InvalidStream => as_aux_lemma => k_is); (case li_InvalidStream => as_aux_lemma => k_is); (case ci_InvalidStream => as_aux_lemma => k_is); (case ki_InvalidStream => as_aux_lemma => k_is); (case cn => as_aux_lemma => k_is); (case ct => as_aux_lemma => k_is); (case u_ParseError_JoinError => as_aux_lemma => k_is); (case n_ParseError_JoinError => decide); (case y_JoinError => as_aux_lemma => k_is); (case i_JoinError => as_aux_lemma => k_is); (case u_ParseError_InvalidStream => as_aux_lemma => k_is); (case n_ParseError_InvalidStream => decide); (case y_InvalidStream => as_aux_lemma => k_is); (case i_InvalidStream => as_aux_lemma => k_is); (case u_InvalidStream_JoinError => as_aux_lemma => k_is); (case n_InvalidStream_JoinError => decide); (case u_InvalidStream_ParseError => as_aux_lemma => k_is); (case n_InvalidStream_ParseError => decide); (case y_ParseError => as_aux_lemma => k_is); (case i_ParseError => as_aux_lemma => k_is); (case w_InvalidStream_ParseError => as_aux_lemma => k_is); (case at_Stream___init__ => as_aux_lemma => k_is); (case if_Stream___init__ => as_aux_lemma => k_is); (case l_Stream___init__ => as_aux_lemma => k_is); (case c_Stream___init__ => as_aux_lemma => k_is); (case k_Stream___init__ => as_aux_lemma => k_is)
