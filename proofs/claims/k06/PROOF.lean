import PyProof.Rows.All
import Wide.All
import OpenK.AllK
import Wide.FinOn
import KE.KStateDown
import Lean
import HandS.ForMost
import HandS.Flow
import HandS.Wide
import HandS.WideBits
import HandS.IsInst
import HandS.Style
import KE.BitLaws
import HandS.TupAny
import HandS.CallLocal
import HandS.Defaults
import HandS.Head0
import HandS.Head1
import HandS.Head2
import HandS.HeadEnd
import HandS.HeadHook1
import HandS.HeadHook2
import HandS.AnyAll
import HandS.GenList
import HandS.HeadHook4
import HandS.HeadWalk
import HandS.Conv
import PyProof.ListStr
import PyProof.TupleOfGen
import HandS.Zip
import HandS.TupMul
import PyProof.P3Eq
import PySem.Challenge.RW_sumtold_k06_rows
set_option Elab.async false
set_option linter.all false
set_option maxRecDepth 100000
set_option maxHeartbeats 4000000
set_option pp.deepTerms false
set_option pp.maxSteps 400
set_option Elab.async false
set_option linter.all false
set_option maxRecDepth 100000
set_option maxHeartbeats 2000000
namespace Zk
open PySem PySem.Spec PyProof.Rows L2
/-! ## a def by its promise -/
abbrev FnP (K : PySem.W.Frag) (x : Str) (st : Stmt) (f : Addr) (fd : FuncData) : Prop := FunD K x x (defArgs st) (defBody st) (defScope st) [] [] f fd
def Has (P : Program) (w : World) (K : PySem.W.Frag) (mg : Str → Option Value) (base : Heap) (k : Nat) (x : Str) (ps : List Str) (sp : Sp) : Prop :=
  ∃ f fd, FnOk P w K mg base CX0 k f fd ps sp ∧ PySem.W.keepIn K (.ref f) = true ∧ Binds K fd ps [] ∧ mg x = some (.ref f)
theorem pe_callH {X : Cx} {k : Nat} {x : Str} {ps : List Str} {sp : Sp} {e : Expr} {es : List Expr} {t : TA} {p pos : Pos} (h : Has X.prog X.w X.K X.mg X.base k x ps sp) (hr : Room k X.A) (hg : Gl X x) (ha : PA X (e :: es) t)
    (hdb : (x == ("__debug__" : Str)) = false := by decide) (he : starEach (e :: es) X.env = (false, eval e X.env) :: starEach es X.env := by rfl) (hpl : (backTo pos (starEach es X.env)).any (·.1) = false := by rfl) :
    PE X (.Call (.Name x p) (e :: es) [] pos) (tCall sp [] E0 t) := by
  obtain ⟨f, fd, F, hk, hb, hm⟩ := h
  exact pe_call F hr hg hm hk hb .nil pass0 ha hdb he hpl
/-! ## operators for numbers of some size -/
def CMulA (i j : Int) : Prop := CMul i j ∨ CMulW i j
def CDivA (_ j : Int) : Prop := j ≠ 0 ∧ j.natAbs.log2 < 9000
section
variable {X : Cx}
theorem op_mulA : OpR X (binaryOp .Mult) (rI CMulA fun i j => .int (i * j)) := opI fun _ _ _ _ _ _ _ hc q => mul_int q (hc.elim (fun h => h.ok) (fun h => h.ok))
theorem op_fdivA : OpR X (binaryOp .FloorDiv) (rI CDivA fun i j => .int (i.fdiv j)) := opI fun _ _ _ _ _ _ _ hc q => floordiv_int hc.1 q (.inl (PyProof.noPylong_of_log2 hc.2))
theorem op_shlA : OpR X (binaryOp .LShift) (rI CShl fun i j => .int (i * 2 ^ j.toNat)) := op_shlW
theorem op_shrA : OpR X (binaryOp .RShift) (rI (fun _ j => 0 ≤ j) fun i j => .int (i / 2 ^ j.toNat)) := op_shr
end
theorem divA {i j : Int} {n : Nat} (h0 : j ≠ 0) (h : j.natAbs < 2 ^ n) (hn : 0 < n) (h9 : n ≤ 9000) : CDivA i j := ⟨h0, Nat.lt_of_lt_of_le (PySem.Flt.log2_lt_of hn h) h9⟩
theorem mulA {i j : Int} {a b : Nat} (ha : i.natAbs < 2 ^ a) (hb : j.natAbs < 2 ^ b) (h0 : 0 < a) (h1 : 0 < b) (h : a + b ≤ 1000000) : CMulA i j := .inr (wide_mul ha hb h0 h1 h)
theorem mulL {i j : Int} (h : -(2 ^ 64) < i ∧ i < 2 ^ 64) : CMulA i j := .inl (.inl h)
theorem mulR {i j : Int} (h : -(2 ^ 64) < j ∧ j < 2 ^ 64) : CMulA i j := .inl (.inr h)
/-! ## rules with the written part named -/
def rLenK (K : PySem.W.Frag) : List V → Hp → VK → Prop := fun xs H Q => ∃ x n, xs = [x] ∧ LenV K x H n ∧ Q (.int n) H
def rListK (K : PySem.W.Frag) : List V → Hp → VK → Prop := fun xs H Q => ∃ p ys, xs = [.ref p] ∧ (SqL K H p ys ∨ SqT K H p ys) ∧ ∀ l, H l = none → Q (.ref l) (upd H l (.lst ys))
def rTupleK (K : PySem.W.Frag) : List V → Hp → VK → Prop := fun xs H Q => ∃ p ys, xs = [.ref p] ∧ ((SqL K H p ys ∧ ∀ l, H l = none → Q (.ref l) (upd H l (.tup ys))) ∨ (SqT K H p ys ∧ Q (.ref p) H))
def rAbs : List V → Hp → VK → Prop := fun xs H Q => ∃ i, xs = [.int i] ∧ Q (.int (if i < 0 then -i else i)) H
def rInt1 : List V → Hp → VK → Prop := fun xs H Q => (∃ i, xs = [.int i] ∧ Q (.int i) H) ∨ ∃ k, xs = [.bl k] ∧ Q (.int (if k then 1 else 0)) H
def rMin2 : List V → Hp → VK → Prop := fun xs H Q => ∃ i j, xs = [.int i, .int j] ∧ Q (.int (if j < i then j else i)) H
def rMax2 : List V → Hp → VK → Prop := fun xs H Q => ∃ i j, xs = [.int i, .int j] ∧ Q (.int (if j > i then j else i)) H
section
variable {X : Cx}
theorem call_min2E (hc : X.calm = true) : CallR X (.builtin "min") rMin2 := call_min2 hc
theorem call_max2E (hc : X.calm = true) : CallR X (.builtin "max") rMax2 := call_max2 hc
theorem op_catE (K : PySem.W.Frag) (e : X.K = K := by rfl) : OpR X (binaryOp .Add) (rCatA K) := by rw [← e]; exact op_catA
theorem sl_tupE (K : PySem.W.Frag) (e : X.K = K := by rfl) : SlR X (rSlA K) := by rw [← e]; exact sl_tupA
theorem call_absE : CallR X (.builtin "abs") rAbs := call_abs
theorem call_intE : CallR X (.type "int") rInt1 := call_int1
theorem call_isiE (K : PySem.W.Frag) (e : X.K = K := by rfl) : CallR X (.builtin "isinstance") (rIsi K) := by rw [← e]; exact call_isi
theorem call_lenE (K : PySem.W.Frag) (e : X.K = K := by rfl) : CallR X (.builtin "len") (rLenK K) := by rw [← e]; exact call_len
theorem call_listE (K : PySem.W.Frag) (e : X.K = K := by rfl) : CallR X (.type "list") (rListK K) := by rw [← e]; exact call_list_of
theorem call_tupleE (K : PySem.W.Frag) (e : X.K = K := by rfl) : CallR X (.type "tuple") (rTupleK K) := by rw [← e]; exact call_tuple_of
theorem ix_listE (K : PySem.W.Frag) (e : X.K = K := by rfl) : IxR X (rIxL K) := by rw [← e]; exact ix_list
theorem ix_tupE (K : PySem.W.Frag) (e : X.K = K := by rfl) : IxR X (rIxT K) := by rw [← e]; exact ix_tup
theorem sl_listE (K : PySem.W.Frag) (e : X.K = K := by rfl) : SlR X (rSlL K) := by rw [← e]; exact sl_list
theorem op_inE (K : PySem.W.Frag) (e : X.K = K := by rfl) : OpR X (compareOp .In) (rIn K false) := by rw [← e]; exact op_in_seq
theorem op_notInE (K : PySem.W.Frag) (e : X.K = K := by rfl) : OpR X (compareOp .NotIn) (rIn K true) := by rw [← e]; exact op_notIn_seq
theorem op_eqDE (K : PySem.W.Frag) (hu : X.A.units + 64 < cLine) (e : X.K = K := by rfl) : OpR X (compareOp .Eq) (rEqD K) := by rw [← e]; exact op_eqD hu
theorem op_neDE (K : PySem.W.Frag) (hu : X.A.units + 64 < cLine) (e : X.K = K := by rfl) : OpR X (compareOp .NotEq) (rNeD K) := by rw [← e]; exact op_neD hu
theorem pi_listE (K : PySem.W.Frag) {tg l : Expr} {tl : TE} (hl : PE X l tl) (e : X.K = K := by rfl) : PI X tg l (iList K tl) := by rw [← e]; exact pi_list hl
theorem pi_tupE (K : PySem.W.Frag) {tg l : Expr} {tl : TE} (hl : PE X l tl) (e : X.K = K := by rfl) : PI X tg l (iTup K tl) := by rw [← e]; exact pi_tup hl
theorem pe_orTE (K : PySem.W.Frag) {a b : Expr} {ta tb : TE} {rest : List Expr} {pos : Pos} (ha : PE X a ta) (hb : PE X (.BoolOp .Or (b :: rest) pos) tb) (e : X.K = K := by rfl) : PE X (.BoolOp .Or (a :: b :: rest) pos) (tOrT K ta tb) := by rw [← e]; exact pe_orT ha hb
end
/-! ## the reading, step by step -/
def NewO (o : List V → HO) (xs : List V) (H : Hp) (Q : VK) : Prop := xs.length ≤ sizeLine ∧ ∀ p, H p = none → Q (.ref p) (upd H p (o xs))
section
variable {σ : L2.St} {H : Hp} {Q : VK} {v x y : V} {i : Nat} {ta tb te : TE} {D : Ends} {t u : TS} {c c' : TT} {a b : Int} {K : PySem.W.Frag} {p : Addr} {xs ys : List V}
theorem z_var (h : σ[i]? = some (some v)) (q : Q v H) : tVar i σ H Q := ⟨v, h, q⟩
theorem z_c (q : Q v H) : tC v σ H Q := q
theorem z_op {r : R2} (q : ta σ H fun x H1 => tb σ H1 fun y H2 => r x y H2 Q) : tOp r ta tb σ H Q := q
theorem z_un {r : V → Hp → VK → Prop} (q : ta σ H fun x H1 => r x H1 Q) : tUn r ta σ H Q := q
theorem z_I0 {g : Int → Int → V} (q : Q (g a b) H) : rI0 g (.int a) (.int b) H Q := ⟨a, b, rfl, rfl, q⟩
theorem z_I {C : Int → Int → Prop} {g : Int → Int → V} (hc : C a b) (q : Q (g a b) H) : rI C g (.int a) (.int b) H Q := ⟨a, b, rfl, rfl, hc, q⟩
theorem z_U {g : Int → V} (q : Q (g a) H) : rU g (.int a) H Q := ⟨a, rfl, q⟩
theorem z_eqI (q : Q (.bl (decide (a = b))) H) : rEq (.int a) (.int b) H Q := ⟨rfl, by
  have e : decide (V.int a = V.int b) = decide (a = b) := by
    by_cases h : a = b
    · rw [h, decide_eq_true rfl, decide_eq_true rfl]
    · rw [decide_eq_false h, decide_eq_false (fun z => h (V.int.inj z))]
  rw [e]
  exact q⟩
theorem z_neI (q : Q (.bl (!decide (a = b))) H) : rNe (.int a) (.int b) H Q := ⟨rfl, by
  have e : decide (V.int a = V.int b) = decide (a = b) := by
    by_cases h : a = b
    · rw [h, decide_eq_true rfl, decide_eq_true rfl]
    · rw [decide_eq_false h, decide_eq_false (fun z => h (V.int.inj z))]
  rw [e]
  exact q⟩
theorem z_eqB {k l : Bool} (q : Q (.bl (decide (k = l))) H) : rEq (.bl k) (.bl l) H Q := ⟨rfl, by
  have e : decide (V.bl k = V.bl l) = decide (k = l) := by
    cases k <;> cases l <;> rfl
  rw [e]
  exact q⟩
theorem z_neB {k l : Bool} (q : Q (.bl (!decide (k = l))) H) : rNe (.bl k) (.bl l) H Q := ⟨rfl, by
  have e : decide (V.bl k = V.bl l) = decide (k = l) := by
    cases k <;> cases l <;> rfl
  rw [e]
  exact q⟩
theorem z_isB {k l : Bool} (q : Q (.bl (decide (k = l))) H) : rIsB (.bl k) (.bl l) H Q := ⟨k, l, rfl, rfl, q⟩
theorem z_notB {k l : Bool} (q : Q (.bl (!decide (k = l))) H) : rNotB (.bl k) (.bl l) H Q := ⟨k, l, rfl, rfl, q⟩
theorem z_ixL (h : SqL K H p xs) (e : atI xs a = some v) (q : Q v H) : rIxL K (.ref p) (.int a) H Q := ⟨p, xs, a, v, rfl, rfl, h, e, q⟩
theorem z_ixT (h : SqT K H p xs) (e : atI xs a = some v) (q : Q v H) : rIxT K (.ref p) (.int a) H Q := ⟨p, xs, a, v, rfl, rfl, h, e, q⟩
theorem z_nil {Q : List V → Hp → Prop} (q : Q [] H) : tNil σ H Q := q
theorem z_cons {tr : TA} {Q : List V → Hp → Prop} (q : ta σ H fun x H1 => tr σ H1 fun xs H2 => Q (x :: xs) H2) : tCons ta tr σ H Q := q
theorem z_tup {tr : TA} (q : tr σ H fun xs H1 => NewO HO.tup xs H1 Q) : tTup tr σ H Q := q
theorem z_lst {tr : TA} (q : tr σ H fun xs H1 => NewO HO.lst xs H1 Q) : tLst tr σ H Q := q
theorem z_call {sp : Sp} {dvs : List V} {E : XK} {tr : TA} (q : tr σ H fun vs H1 => sp (vs ++ dvs) H1 Q E) : tCall sp dvs E tr σ H Q := q
theorem z_cb {r : List V → Hp → VK → Prop} {tr : TA} (q : tr σ H fun vs H1 => r vs H1 Q) : tCB r tr σ H Q := q
theorem z_andV (q : ta σ H fun x H1 => ∃ c, x = .bl c ∧ if c = true then tb σ H1 Q else Q (.bl false) H1) : tAndV ta tb σ H Q := q
theorem z_orV (q : ta σ H fun x H1 => ∃ c, x = .bl c ∧ if c = true then Q (.bl true) H1 else tb σ H1 Q) : tOrV ta tb σ H Q := q
theorem z_notV (q : ta σ H fun x H1 => ∃ c, x = .bl c ∧ Q (.bl (!c)) H1) : tNotV ta σ H Q := q
theorem z_orTi (q : if a = 0 then tb σ H Q else Q (.int a) H) : (∃ k, TruV K (.int a) H k ∧ if k = true then Q (.int a) H else tb σ H Q) := by
  refine ⟨a != 0, rfl, ?_⟩
  by_cases h : a = 0
  · rw [if_pos h] at q
    rw [h]
    exact iteF q
  · rw [if_neg h] at q
    have e : (a != 0) = true := by simpa using h
    rw [e]
    exact iteT q
/-- x or y: what stands behind is shown once -/
theorem z_orCut (Pv : Int → Hp → Prop) (ha : a ≠ 0 → Pv a H) (hQ : ∀ m H', Pv m H' → Q (.int m) H') (hb : a = 0 → ∀ Q' : VK, (∀ m H', Pv m H' → Q' (.int m) H') → tb σ H Q') : (∃ k, TruV K (.int a) H k ∧ if k = true then Q (.int a) H else tb σ H Q) := by
  refine z_orTi ?_
  by_cases h : a = 0
  · rw [if_pos h]
    exact hb h Q hQ
  · rw [if_neg h]
    exact hQ _ _ (ha h)
theorem z_orT (q : ta σ H fun x H1 => ∃ k, TruV K x H1 k ∧ if k = true then Q x H1 else tb σ H1 Q) : tOrT K ta tb σ H Q := q
theorem z_ebl {k : Bool} {P : Bool → Prop} (q : P k) : ∃ c, V.bl k = V.bl c ∧ P c := ⟨k, rfl, q⟩
theorem z_eint {P : Int → Prop} (q : P a) : ∃ c, V.int a = V.int c ∧ P c := ⟨a, rfl, q⟩
theorem z_test {Q : Bool → Hp → Prop} (q : te σ H fun x H' => ∃ k, x = .bl k ∧ Q k H') : tTest te σ H Q := q
theorem z_B {Q : Bool → Hp → Prop} (q : te σ H fun x H' => ∃ k, x = .bl k ∧ Q k H') : tB te σ H Q := q
theorem z_and {Q : Bool → Hp → Prop} (q : c σ H fun k H1 => if k = true then c' σ H1 Q else Q false H1) : tAnd c c' σ H Q := q
theorem z_or {Q : Bool → Hp → Prop} (q : c σ H fun k H1 => if k = true then Q true H1 else c' σ H1 Q) : tOr c c' σ H Q := q
theorem z_not {Q : Bool → Hp → Prop} (q : c σ H fun k H1 => Q (!k) H1) : tNot c σ H Q := q
theorem z_yes {Q : Bool → Hp → Prop} (q : Q true H) : tYes σ H Q := q
theorem z_seq (q : t { D with nx := u D } σ H) : tSeq t u D σ H := q
theorem z_next (q : D.nx σ H) : tNext D σ H := q
theorem z_asg {g : TG} (q : te σ H fun x H1 => g x σ H1 D.nx) : tAsg te g D σ H := q
theorem z_name {Q : L2.St → Hp → Prop} (q : Q (σ.set i (some v)) H) : gName i v σ H Q := q
theorem z_ret (q : te σ H D.rt) : tRet te D σ H := q
theorem z_retN (q : D.rt .non H) : tRetN D σ H := q
theorem z_drop (q : te σ H fun _ H1 => D.nx σ H1) : tDrop te D σ H := q
theorem z_if (q : c σ H fun k H1 => if k = true then t D σ H1 else u D σ H1) : tIfS c t u D σ H := q
theorem z_par {j : Nat} {tr : TA} (q : tr σ H fun vs H1 => ∃ v w, vs = [v, w] ∧ D.nx ((σ.set i (some v)).set j (some w)) H1) : tPar i j tr D σ H := q
theorem z_par2 {w : V} {P : V → V → Prop} (q : P v w) : ∃ v' w', [v, w] = [v', w'] ∧ P v' w' := ⟨v, w, rfl, q⟩
theorem z_gTup {n : Nat} {g : TGs} {Q : L2.St → Hp → Prop} (h : SqT K H p xs) (hl : xs.length = n) (q : g xs σ H Q) : gTup K n g (.ref p) σ H Q := ⟨p, xs, rfl, h, hl, q⟩
theorem z_gCons {g : TG} {gs : TGs} {Q : L2.St → Hp → Prop} (q : g v σ H fun σ' H' => gs xs σ' H' Q) : gCons g gs (v :: xs) σ H Q := ⟨v, xs, rfl, q⟩
theorem z_gNil {Q : L2.St → Hp → Prop} (q : Q σ H) : gNil [] σ H Q := ⟨rfl, q⟩
theorem z_gSub {to ti : TE} {ts : TSet} {Q : L2.St → Hp → Prop} (q : to σ H fun o H1 => ti σ H1 fun i H2 => ts o i v H2 fun H3 => Q σ H3) : gSub to ti ts v σ H Q := q
theorem z_setL {j : Nat} {Q : Hp → Prop} (h : H p = some (.lst xs)) (e : ixN xs.length a = some j) (q : Q (upd H p (.lst (xs.set j v)))) : rSetL (.ref p) (.int a) v H Q := ⟨p, xs, a, j, rfl, rfl, h, e, q⟩
theorem z_isi {n s : String} {k : Bool} (hx : TyX K H x (.type n)) (hk : kitB n s = some k) (q : Q (.bl k) H) : rIsi K [x, .ty s] H Q := ⟨x, .ty s, .type n, .type s, k, rfl, .ty s, hx, kit_ty hk, q⟩
theorem z_new {o : List V → HO} (hl : xs.length ≤ 1000) (q : ∀ p H', H p = none → Same H H' → H' p = some (o xs) → Q (.ref p) H') : NewO o xs H Q :=
  ⟨Nat.le_of_lt (small1000 hl), fun p hp => q p _ hp (fun b u e => by rw [upd_ne (ne_of_none e hp)]; exact e) upd_same⟩
theorem z_lenT (h : H p = some (.tup xs)) (q : Q (.int xs.length) H) : rLenK K [.ref p] H Q := ⟨_, xs.length, rfl, .inr ⟨xs, SqT.of h, rfl⟩, q⟩
theorem z_lenL (h : SqL K H p xs) (q : Q (.int xs.length) H) : rLenK K [.ref p] H Q := ⟨_, xs.length, rfl, .inl ⟨xs, h, rfl⟩, q⟩
theorem z_slL {lo hi : Option Int} (h : SqL K H p xs) (q : ∀ p' H', H p' = none → Same H H' → H' p' = some (.lst (cutV xs lo hi)) → Q (.ref p') H') : rSlL K (.ref p) lo hi H Q :=
  ⟨p, xs, rfl, h, fun p' hp => q p' _ hp (fun b u e => by rw [upd_ne (ne_of_none e hp)]; exact e) upd_same⟩
theorem z_cat {l l' : Addr} (h : H l = some (.lst xs)) (h' : H l' = some (.lst ys)) (hl : xs.length + ys.length ≤ 1000) (q : ∀ p' H', H p' = none → Same H H' → H' p' = some (.lst (xs ++ ys)) → Q (.ref p') H') : rCat (.ref l) (.ref l') H Q :=
  ⟨l, l', xs, ys, rfl, rfl, h, h', Nat.le_of_lt (small1000 hl), fun p' hp => q p' _ hp (fun b u e => by rw [upd_ne (ne_of_none e hp)]; exact e) upd_same⟩
theorem z_catT {l l' : Addr} (h : H l = some (.tup xs)) (h' : H l' = some (.tup ys)) (hl : xs.length + ys.length ≤ 1000) (q : ∀ p' H', Same H H' → H' p' = some (.tup (xs ++ ys)) → Q (.ref p') H') : rCatA K (.ref l) (.ref l') H Q :=
  ⟨l, l', xs, ys, rfl, rfl, SqT.of h, SqT.of h', Nat.le_of_lt (small1000 hl), fun e => q l' H (Same.refl H) (by rw [e]; exact h'), fun _ e => q l H (Same.refl H) (by rw [e, List.append_nil]; exact h), fun _ _ p' hp => q p' _ (fun b u e => by rw [upd_ne (ne_of_none e hp)]; exact e) upd_same⟩
theorem cutV_whole {xs : List V} {lo hi : Option Int} (h : HT.sIx xs.length 0 lo = 0 ∧ HT.sIx xs.length xs.length hi = xs.length) : cutV xs lo hi = xs := by
  unfold cutV
  rw [h.1, h.2]
  simp
theorem z_slT {lo hi : Option Int} (h : H p = some (.tup xs)) (q : ∀ p' H', Same H H' → H' p' = some (.tup (cutV xs lo hi)) → Q (.ref p') H') : rSlA K (.ref p) lo hi H Q :=
  ⟨p, xs, rfl, SqT.of h, fun e => q p H (Same.refl H) (by rw [cutV_whole e]; exact h), fun _ p' hp => q p' _ (fun b u e => by rw [upd_ne (ne_of_none e hp)]; exact e) upd_same⟩
theorem z_dnew (q : ∀ p H', H p = none → Same H H' → H' p = some (.dK []) → Q (.ref p) H') : tDNewK σ H Q := fun p hp => q p _ hp (fun b u e => by rw [upd_ne (ne_of_none e hp)]; exact e) upd_same
theorem z_listT (h : H p = some (.tup xs)) (q : ∀ p' H', H p' = none → Same H H' → H' p' = some (.lst xs) → Q (.ref p') H') : rListK K [.ref p] H Q := ⟨p, xs, rfl, .inr (SqT.of h), fun p' hp => q p' _ hp (fun b u e => by rw [upd_ne (ne_of_none e hp)]; exact e) upd_same⟩
theorem z_eqD {d e : PyData} {k : Bool} (h : Dp K H x d) (h' : Dp K H y e) (s : SeqAt.shaped d = true) (s' : SeqAt.shaped e = true) (hk : PyData.eqv d e = k) (q : Q (.bl k) H) : rEqD K x y H Q := ⟨d, e, h, h', s, s', by rw [hk]; exact q⟩
theorem z_neD {d e : PyData} {k : Bool} (h : Dp K H x d) (h' : Dp K H y e) (s : SeqAt.shaped d = true) (s' : SeqAt.shaped e = true) (hk : PyData.eqv d e = k) (q : Q (.bl (!k)) H) : rNeD K x y H Q := ⟨d, e, h, h', s, s', by rw [hk]; exact q⟩
theorem z_min2 {m n : Nat} (q : Q (.int ((min m n : Nat) : Int)) H) : rMin2 [.int (m : Int), .int (n : Int)] H Q := ⟨m, n, rfl, by
  have e : (if (n : Int) < (m : Int) then (n : Int) else (m : Int)) = ((min m n : Nat) : Int) := by split <;> omega
  rw [e]
  exact q⟩
theorem z_max2 {m n : Nat} (q : Q (.int ((max m n : Nat) : Int)) H) : rMax2 [.int (m : Int), .int (n : Int)] H Q := ⟨m, n, rfl, by
  have e : (if (n : Int) > (m : Int) then (n : Int) else (m : Int)) = ((max m n : Nat) : Int) := by split <;> omega
  rw [e]
  exact q⟩
theorem z_intB {k : Bool} (q : Q (.int (if k then 1 else 0)) H) : rInt1 [.bl k] H Q := .inr ⟨k, rfl, q⟩
theorem z_abs (q : Q (.int (a.natAbs : Int)) H) : rAbs [.int a] H Q := ⟨a, rfl, by
  have e : (if a < 0 then -a else a) = (a.natAbs : Int) := by split <;> omega
  rw [e]
  exact q⟩
theorem z_pow (h : CPow a b) (q : Q (.int (a ^ b.toNat)) H) : rI CPow (fun i j => .int (i ^ j.toNat)) (.int a) (.int b) H Q := ⟨a, b, rfl, rfl, h, q⟩
theorem z_modN (h : b ≠ 0) (q : Q (.int (a.fmod b)) H) : rI (fun _ j => j ≠ 0) (fun i j => .int (i.fmod j)) (.int a) (.int b) H Q := ⟨a, b, rfl, rfl, h, q⟩
theorem z_mulA (h : CMulA a b) (q : Q (.int (a * b)) H) : rI CMulA (fun i j => .int (i * j)) (.int a) (.int b) H Q := ⟨a, b, rfl, rfl, h, q⟩
theorem z_fdivA (h : CDivA a b) (q : Q (.int (a.fdiv b)) H) : rI CDivA (fun i j => .int (i.fdiv j)) (.int a) (.int b) H Q := ⟨a, b, rfl, rfl, h, q⟩
theorem z_shlA (h : CShl a b) (q : Q (.int (a * 2 ^ b.toNat)) H) : rI CShl (fun i j => .int (i * 2 ^ j.toNat)) (.int a) (.int b) H Q := ⟨a, b, rfl, rfl, h, q⟩
theorem z_shrA (h : 0 ≤ b) (q : Q (.int (a / 2 ^ b.toNat)) H) : rI (fun _ j => 0 ≤ j) (fun i j => .int (i / 2 ^ j.toNat)) (.int a) (.int b) H Q := ⟨a, b, rfl, rfl, h, q⟩
theorem z_for {wi : TI} {g : TG} {tb : TS} (q : wi σ H fun J H1 => ∃ W : Nat → Nat → L2.St → Hp → Prop, (∃ m, W 0 m σ H1) ∧ ∀ i m σ H, W i m σ H →
  (J.stop i H ∧ D.nx σ H) ∨ (J.go i H ∧ ∃ N : L2.St → Hp → Prop, (∀ σ' H', N σ' H' → ∃ m', m' < m ∧ W (i + 1) m' σ' H') ∧ ∀ x H', J.yld i H x H' → g x σ H' fun σ2 H2 => tb { D with nx := N, ct := N, bk := D.nx } σ2 H2)) : tFor wi g tb D σ H := q
theorem z_rng1 {tr : TA} {R : It → Hp → Prop} (q : tr σ H fun vs H1 => ∃ j : Int, vs = [.int j] ∧ -(2 ^ 62) ≤ j ∧ j < 2 ^ 62 ∧ R (Itr 0 j.toNat) H1) : iRng1 tr σ H R := q
theorem z_iL {R : It → Hp → Prop} (q : te σ H fun x H1 => ∃ a, x = .ref a ∧ (∃ xs, SqL K H1 a xs) ∧ R (Itl K a) H1) : iList K te σ H R := q
theorem z_iT {R : It → Hp → Prop} (q : te σ H fun x H1 => ∃ a, x = .ref a ∧ (∃ xs, SqT K H1 a xs) ∧ R (Itt K a) H1) : iTup K te σ H R := q
theorem z_bm {T : String} {r : V → List V → Hp → VK → Prop} {to : TE} {tr : TA} (q : to σ H fun x H1 => tyV K T x H1 ∧ tr σ H1 fun xs H2 => r x xs H2 Q) : tBM K T r to tr σ H Q := q
theorem z_bits (q : te σ H fun x H1 => ∃ i, x = .int i ∧ Q (.int (Builtin.Int.intBits i : Nat)) H1) : tBits te σ H Q := q
theorem z_sl {r : V → Option Int → Option Int → Hp → VK → Prop} {tl th : TO} (q : te σ H fun x H1 => tl σ H1 fun l H2 => th σ H2 fun u H3 => r x l u H3 Q) : tSl r te tl th σ H Q := q
theorem z_noPart {Q : Option Int → Hp → Prop} (q : Q none H) : tNoPart σ H Q := q
theorem z_part {Q : Option Int → Hp → Prop} (q : te σ H fun x H1 => ∃ i, x = .int i ∧ Q (some i) H1) : tPart te σ H Q := q
theorem z_chain {r r' : R2} {tc : TE} (q : ta σ H fun x H1 => tb σ H1 fun y H2 => r x y H2 fun z H3 => ∃ k, z = .bl k ∧ (if k = true then tc σ H3 fun w' H4 => r' y w' H4 Q else Q (.bl false) H3)) : tChain r r' ta tb tc σ H Q := q
theorem z_itT {k : Bool} {A B : Prop} (e : k = true) (q : A) : if k = true then A else B := by rw [if_pos e]; exact q
theorem z_itF {k : Bool} {A B : Prop} (e : k = false) (q : B) : if k = true then A else B := by rw [e]; exact iteF q
/-- what stands behind is shown once -/
theorem cutT {σ : L2.St} {H : Hp} {t : TT} {Q : Bool → Hp → Prop} (Pv : Bool → Hp → Prop) (h : ∀ Q' : Bool → Hp → Prop, (∀ k H', Pv k H' → Q' k H') → t σ H Q') (hQ : ∀ k H', Pv k H' → Q k H') : t σ H Q := h Q hQ
theorem cutE {σ : L2.St} {H : Hp} {t : TE} {Q : VK} (Pv : V → Hp → Prop) (h : ∀ Q' : VK, (∀ k H', Pv k H' → Q' k H') → t σ H Q') (hQ : ∀ k H', Pv k H' → Q k H') : t σ H Q := h Q hQ
theorem cutSt {σ : L2.St} {H : Hp} {t : TS} {D : Ends} (Pv : L2.St → Hp → Prop) (h : ∀ D' : Ends, (∀ σ' H', Pv σ' H' → D'.nx σ' H') → D'.rt = D.rt → D'.bk = D.bk → D'.ct = D.ct → t D' σ H) (hQ : ∀ σ' H', Pv σ' H' → D.nx σ' H') : t D σ H := h D hQ rfl rfl rfl
theorem sz {n : Nat} (h : n ≤ 1000) : n ≤ sizeLine := Nat.le_of_lt (small1000 h)
theorem z_ite {P : Prop} {A B : Prop} [Decidable P] (h1 : P → A) (h2 : ¬ P → B) : if decide P = true then A else B := by
  by_cases h : P
  · rw [decide_eq_true h]
    exact iteT (h1 h)
  · rw [decide_eq_false h]
    exact iteF (h2 h)
theorem z_nite {P : Prop} {A B : Prop} [Decidable P] (h1 : ¬ P → A) (h2 : P → B) : if (!decide P) = true then A else B := by
  by_cases h : P
  · rw [decide_eq_true h]
    exact iteF (h2 h)
  · rw [decide_eq_false h]
    exact iteT (h1 h)
end
/-! ## the source of draws: a list of three ints; all else stays -/
def Src (H : Hp) (s : Addr) : Prop := ∃ a b c : Int, H s = some (.lst [.int a, .int b, .int c])
structure Dr (s : Addr) (H H' : Hp) : Prop where
  keep : ∀ a o, a ≠ s → H a = some o → H' a = some o
  src : Src H' s
  src0 : Src H s
theorem Dr.trans {s : Addr} {H H1 H2 : Hp} (a : Dr s H H1) (b : Dr s H1 H2) : Dr s H H2 := ⟨fun x o n h => b.keep x o n (a.keep x o n h), b.src, a.src0⟩
theorem Dr.refl {s : Addr} {H : Hp} (h : Src H s) : Dr s H H := ⟨fun _ _ _ h => h, h, h⟩
theorem Src.same {s : Addr} {H H' : Hp} (h : Src H s) (e : Same H H') : Src H' s := by
  obtain ⟨a, b, c, h⟩ := h
  exact ⟨a, b, c, e _ _ h⟩
theorem Src.ne {s p : Addr} {H : Hp} (h : Src H s) (n : H p = none) : p ≠ s := by
  obtain ⟨a, b, c, h⟩ := h
  intro z
  rw [z, h] at n
  cases n
theorem Dr.of_same {s : Addr} {H H' : Hp} (h : Src H s) (e : Same H H') : Dr s H H' := ⟨fun a o _ h => e a o h, h.same e, h⟩
theorem Dr.tup {s a : Addr} {H H' : Hp} {xs : List V} (d : Dr s H H') (ht : H a = some (.tup xs)) : H' a = some (.tup xs) := by
  obtain ⟨x, y, z, h⟩ := d.src0
  exact d.keep a _ (ne_of ht h (by intro q; cases q)) ht
theorem Dr.frz {s a : Addr} {H H' : Hp} {o : Obj} {u : HO} (d : Dr s H H') (ht : H a = some (.frz o u)) : H' a = some (.frz o u) := by
  obtain ⟨x, y, z, h⟩ := d.src0
  exact d.keep a _ (ne_of ht h (by intro q; cases q)) ht
theorem same_get {H H' : Hp} {a : Addr} {o : HO} (e : Same H H') (h : H a = some o) : H' a = some o := e a o h
theorem dpPair {K : PySem.W.Frag} {H : Hp} {p : Addr} {x y : Int} (h : H p = some (.tup [.int x, .int y])) : Dp K H (.ref p) (.tuple [.int x, .int y]) := .tup (SqT.of h) (.cons (.int x) (.cons (.int y) .nil))
theorem shPair (x y : Int) : SeqAt.shaped (.tuple [.int x, .int y]) = true := rfl
theorem eqvPair (x y x' y' : Int) : PyData.eqv (.tuple [.int x, .int y]) (.tuple [.int x', .int y']) = (decide (x = x') && decide (y = y')) := by
  by_cases h : x = x' <;> by_cases h' : y = y' <;> simp [PyData.eqv, PyData.eqvAll, h, h']
theorem eqvPair_of {x y x' y' : Int} (h : x = x') (h' : y = y') : PyData.eqv (.tuple [.int x, .int y]) (.tuple [.int x', .int y']) = true := by
  rw [eqvPair, decide_eq_true h, decide_eq_true h']
  rfl
theorem bool_bl {k l : Bool} (e : k = l) {Q : VK} {H : Hp} (q : Q (.bl l) H) : Q (.bl k) H := by rw [e]; exact q
end Zk
set_option Elab.async false
set_option linter.all false
set_option maxRecDepth 100000
set_option maxHeartbeats 2000000
namespace Zk
open PySem PySem.Spec PyProof.Rows L2
/-! ## pairs: the mathematics -/
def dvs (n d : Int) : Int := if d < 0 then -(Nat.gcd n.natAbs d.natAbs : Int) else (Nat.gcd n.natAbs d.natAbs : Int)
def pn (n d : Int) : Int := n.fdiv (dvs n d)
def pd (n d : Int) : Int := d.fdiv (dvs n d)
theorem gcd_pos {n d : Int} (h : d ≠ 0) : 0 < Nat.gcd n.natAbs d.natAbs := Nat.gcd_pos_of_pos_right _ (by omega)
theorem dvs_ne {n d : Int} (h : d ≠ 0) : dvs n d ≠ 0 := by
  have := gcd_pos (n := n) h
  unfold dvs
  split <;> omega
theorem dvs_abs (n d : Int) : (dvs n d).natAbs = Nat.gcd n.natAbs d.natAbs := by
  unfold dvs
  split <;> omega
theorem dvs_l (n d : Int) : dvs n d ∣ n := by
  rw [← Int.natAbs_dvd_natAbs, dvs_abs]
  exact Nat.gcd_dvd_left _ _
theorem dvs_r (n d : Int) : dvs n d ∣ d := by
  rw [← Int.natAbs_dvd_natAbs, dvs_abs]
  exact Nat.gcd_dvd_right _ _
theorem pn_mul (n d : Int) : pn n d * dvs n d = n := Int.fdiv_mul_cancel (dvs_l n d)
theorem pd_mul (n d : Int) : pd n d * dvs n d = d := Int.fdiv_mul_cancel (dvs_r n d)
theorem pn_abs (n d : Int) : (pn n d).natAbs * Nat.gcd n.natAbs d.natAbs = n.natAbs := by
  have h := congrArg Int.natAbs (pn_mul n d)
  rw [Int.natAbs_mul, dvs_abs] at h
  exact h
theorem pd_abs (n d : Int) : (pd n d).natAbs * Nat.gcd n.natAbs d.natAbs = d.natAbs := by
  have h := congrArg Int.natAbs (pd_mul n d)
  rw [Int.natAbs_mul, dvs_abs] at h
  exact h
theorem pd_pos {n d : Int} (h : d ≠ 0) : 0 < pd n d := by
  have e := pd_mul n d
  have g := gcd_pos (n := n) h
  unfold dvs at e
  by_cases hd : d < 0
  · rw [if_pos hd] at e
    rcases (show 0 < pd n d ∨ pd n d ≤ 0 by omega) with q | q
    · exact q
    · exfalso
      have : 0 ≤ pd n d * -(Nat.gcd n.natAbs d.natAbs : Int) := Int.mul_nonneg_of_nonpos_of_nonpos q (by omega)
      omega
  · rw [if_neg hd] at e
    rcases (show 0 < pd n d ∨ pd n d ≤ 0 by omega) with q | q
    · exact q
    · exfalso
      have : pd n d * (Nat.gcd n.natAbs d.natAbs : Int) ≤ 0 := Int.mul_nonpos_of_nonpos_of_nonneg q (by omega)
      omega
theorem pr_cross (n d : Int) : pn n d * d = n * pd n d := by
  have e1 := pn_mul n d
  have e2 := pd_mul n d
  calc pn n d * d = pn n d * (pd n d * dvs n d) := by rw [e2]
    _ = (pn n d * dvs n d) * pd n d := by rw [Int.mul_comm (pd n d), Int.mul_assoc]
    _ = n * pd n d := by rw [e1]
theorem pr_gcd {n d : Int} (h : d ≠ 0) : Nat.gcd (pn n d).natAbs (pd n d).natAbs = 1 := by
  have g := gcd_pos (n := n) h
  have e := Nat.gcd_mul_right (pn n d).natAbs (Nat.gcd n.natAbs d.natAbs) (pd n d).natAbs
  rw [pn_abs, pd_abs] at e
  exact Nat.eq_of_mul_eq_mul_right g (by omega)
theorem pn_le {n d : Int} (h : d ≠ 0) : (pn n d).natAbs ≤ n.natAbs := by
  have g := gcd_pos (n := n) h
  have e := pn_abs n d
  have : (pn n d).natAbs * 1 ≤ (pn n d).natAbs * Nat.gcd n.natAbs d.natAbs := Nat.mul_le_mul_left _ g
  omega
theorem pd_le {n d : Int} (h : d ≠ 0) : (pd n d).natAbs ≤ d.natAbs := by
  have g := gcd_pos (n := n) h
  have e := pd_abs n d
  have : (pd n d).natAbs * 1 ≤ (pd n d).natAbs * Nat.gcd n.natAbs d.natAbs := Nat.mul_le_mul_left _ g
  omega
/-- a pair in lowest terms -/
structure Low (x y : Int) : Prop where
  pos : 0 < y
  one : Nat.gcd x.natAbs y.natAbs = 1
theorem low_pair {n d : Int} (h : d ≠ 0) : Low (pn n d) (pd n d) := ⟨pd_pos h, pr_gcd h⟩
theorem low_eq {x y x' y' : Int} (h : Low x y) (h' : Low x' y') (e : x * y' = x' * y) : x = x' ∧ y = y' := by
  have ea := congrArg Int.natAbs e
  rw [Int.natAbs_mul, Int.natAbs_mul] at ea
  have d1 : y.natAbs ∣ y'.natAbs := by
    refine Nat.Coprime.dvd_of_dvd_mul_left (k := y.natAbs) (m := x.natAbs) (n := y'.natAbs) ?_ ?_
    · rw [Nat.Coprime, Nat.gcd_comm]
      exact h.one
    · exact ⟨x'.natAbs, by rw [ea, Nat.mul_comm]⟩
  have d2 : y'.natAbs ∣ y.natAbs := by
    refine Nat.Coprime.dvd_of_dvd_mul_left (k := y'.natAbs) (m := x'.natAbs) (n := y.natAbs) ?_ ?_
    · rw [Nat.Coprime, Nat.gcd_comm]
      exact h'.one
    · exact ⟨x.natAbs, by rw [← ea, Nat.mul_comm]⟩
  have ey := Nat.dvd_antisymm d1 d2
  have p1 := h.pos
  have p2 := h'.pos
  have ey2 : y = y' := by omega
  refine ⟨?_, ey2⟩
  rw [← ey2] at e
  exact Int.eq_of_mul_eq_mul_right (by omega) e
/-- a pair is told by its worth -/
theorem pair_eq {n d n' d' : Int} (h : d ≠ 0) (h' : d' ≠ 0) (e : n * d' = n' * d) : pn n d = pn n' d' ∧ pd n d = pd n' d' := by
  refine low_eq (low_pair h) (low_pair h') ?_
  have c1 := pr_cross n d
  have c2 := pr_cross n' d'
  have e2 : (pn n d * pd n' d') * (d * d') = (pn n' d' * pd n d) * (d * d') := by
    calc (pn n d * pd n' d') * (d * d') = (pn n d * d) * (d' * pd n' d') := by
          rw [Int.mul_comm d' (pd n' d'), Int.mul_assoc, Int.mul_assoc, ← Int.mul_assoc (pd n' d') d d', Int.mul_comm (pd n' d') d, Int.mul_assoc]
      _ = (n * pd n d) * (d' * pd n' d') := by rw [c1]
      _ = (n * d') * (pd n d * pd n' d') := by
          rw [Int.mul_assoc, Int.mul_assoc, ← Int.mul_assoc (pd n d) d', Int.mul_comm (pd n d) d', Int.mul_assoc]
      _ = (n' * d) * (pd n d * pd n' d') := by rw [e]
      _ = (n' * pd n' d') * (d * pd n d) := by
          rw [Int.mul_assoc, Int.mul_assoc, Int.mul_comm (pd n d) (pd n' d'), ← Int.mul_assoc d, Int.mul_comm d (pd n' d'), Int.mul_assoc]
      _ = (pn n' d' * d') * (d * pd n d) := by rw [c2]
      _ = (pn n' d' * pd n d) * (d * d') := by
          rw [Int.mul_assoc, Int.mul_assoc, Int.mul_comm d (pd n d), ← Int.mul_assoc d', Int.mul_comm d' (pd n d), Int.mul_assoc, Int.mul_comm d' d]
  exact Int.eq_of_mul_eq_mul_right (by
    intro z
    rcases Int.mul_eq_zero.mp z with q | q
    · exact h q
    · exact h' q) e2
/-- of a pair in lowest terms pair tells itself -/
theorem pair_self {x y : Int} (h : Low x y) : pn x y = x ∧ pd x y = y :=
  low_eq (low_pair (by have := h.pos; omega)) h (by rw [pr_cross])
theorem lt_pow {a b n : Nat} (h : a ≤ b) (hb : b < 2 ^ n) : a < 2 ^ n := Nat.lt_of_le_of_lt h hb
theorem pw_mono {a m n : Nat} (h : a < 2 ^ m) (hn : m ≤ n) : a < 2 ^ n := Nat.lt_of_lt_of_le h (Nat.pow_le_pow_right (by decide) hn)
theorem pw_mul {a b : Int} {m n : Nat} (ha : a.natAbs < 2 ^ m) (hb : b.natAbs < 2 ^ n) : (a * b).natAbs < 2 ^ (m + n) := wide_lt ha hb
theorem pw_add {a b : Int} {n : Nat} (ha : a.natAbs < 2 ^ n) (hb : b.natAbs < 2 ^ n) : (a + b).natAbs < 2 ^ (n + 1) := by
  rw [Nat.pow_succ]
  omega
theorem pw_sub {a b : Int} {n : Nat} (ha : a.natAbs < 2 ^ n) (hb : b.natAbs < 2 ^ n) : (a - b).natAbs < 2 ^ (n + 1) := by
  rw [Nat.pow_succ]
  omega
theorem ipow_le {c a b : Nat} (hc : 0 < c) (h : a ≤ b) : (c : Int) ^ a ≤ (c : Int) ^ b := by
  rw [← Int.natCast_pow, ← Int.natCast_pow]
  exact Int.ofNat_le.mpr (Nat.pow_le_pow_right hc h)
theorem fm2 (x : Nat) : (x : Int).fmod 2 = ((x % 2 : Nat) : Int) := by
  rw [Int.fmod_eq_emod_of_nonneg _ (by decide)]
  rfl
theorem sh1 (x : Nat) : (x : Int) / 2 ^ Int.toNat 1 = ((x / 2 : Nat) : Int) := rfl
theorem gcd_both {x y : Nat} (hx : x % 2 = 0) (hy : y % 2 = 0) : Nat.gcd x y = 2 * Nat.gcd (x / 2) (y / 2) := by
  have ex : x = 2 * (x / 2) := by omega
  have ey : y = 2 * (y / 2) := by omega
  rw [← Nat.gcd_mul_left, ← ex, ← ey]
theorem dvd_two {k : Nat} (h : k ∣ 2) : k = 1 ∨ k = 2 := by
  have : k ≤ 2 := Nat.le_of_dvd (by decide) h
  rcases (show k = 0 ∨ k = 1 ∨ k = 2 by omega) with rfl | rfl | rfl
  · exact absurd h (by decide)
  · exact .inl rfl
  · exact .inr rfl
theorem gcd_left {x y : Nat} (hx : x % 2 = 0) (hy : y % 2 = 1) : Nat.gcd (x / 2) y = Nat.gcd x y := by
  have ex : x = 2 * (x / 2) := by omega
  have c : Nat.Coprime 2 y := by
    unfold Nat.Coprime
    have := Nat.gcd_dvd_left 2 y
    have h2 : Nat.gcd 2 y ∣ y := Nat.gcd_dvd_right 2 y
    rcases (dvd_two this) with h | h
    · exact h
    · rw [h] at h2
      omega
  have h := Nat.Coprime.gcd_mul_left_cancel (x / 2) c
  rw [← ex] at h
  exact h.symm
theorem gcd_right {x y : Nat} (hx : x % 2 = 1) (hy : y % 2 = 0) : Nat.gcd x (y / 2) = Nat.gcd x y := by
  rw [Nat.gcd_comm x, Nat.gcd_comm x]
  exact gcd_left hy hx
theorem gcd_sub {x y : Nat} (h : y ≤ x) : Nat.gcd (x - y) y = Nat.gcd x y := Nat.gcd_sub_self_left h
/-- the while loops' tests pass on what they find -/
theorem mono_neI {i : Nat} {n : Int} {σ : L2.St} {H : Hp} {Q Q' : Bool → Hp → Prop} (hQ : ∀ b H1, Q b H1 → Q' b H1) (h : tTest (tOp rNe (tVar i) (tC (.int n))) σ H Q) : tTest (tOp rNe (tVar i) (tC (.int n))) σ H Q' := by
  obtain ⟨v, e, s, k, e2, q⟩ := h
  exact ⟨v, e, s, k, e2, hQ _ _ q⟩
end Zk
set_option Elab.async false
set_option linter.all false
set_option maxRecDepth 100000
set_option maxHeartbeats 2000000
namespace Zk
open PySem PySem.Spec PyProof.Rows L2
/-! ## parts: the mathematics -/
def partF : Nat → Int → Int × Nat
  | 0, n => (n, 0)
  | e + 1, n => if n % 2 = 0 then partF e (n / 2) else (n, e + 1)
theorem and_odd (k : Nat) : (2 * k + 1) &&& (2 * k) = 2 * k := by
  have h1 : ((2 * k + 1) &&& (2 * k)) / 2 = k := by
    rw [Nat.and_div_two, show (2 * k + 1) / 2 = k by omega, show 2 * k / 2 = k by omega, Nat.and_self]
  have h2 : ((2 * k + 1) &&& (2 * k)) % 2 = 0 := by
    rcases (show ((2 * k + 1) &&& (2 * k)) % 2 = 0 ∨ ((2 * k + 1) &&& (2 * k)) % 2 = 1 by omega) with h | h
    · exact h
    · have := (Nat.and_mod_two_eq_one.mp h).2
      omega
  omega
theorem and_even {k : Nat} (hk : 0 < k) : (2 * k) &&& (2 * k - 1) = 2 * (k &&& (k - 1)) := by
  have h1 : ((2 * k) &&& (2 * k - 1)) / 2 = (k &&& (k - 1)) := by
    rw [Nat.and_div_two, show 2 * k / 2 = k by omega, show (2 * k - 1) / 2 = k - 1 by omega]
  have h2 : ((2 * k) &&& (2 * k - 1)) % 2 = 0 := by
    rcases (show ((2 * k) &&& (2 * k - 1)) % 2 = 0 ∨ ((2 * k) &&& (2 * k - 1)) % 2 = 1 by omega) with h | h
    · exact h
    · have := (Nat.and_mod_two_eq_one.mp h).1
      omega
  omega
theorem low_bit : ∀ (b n : Nat), n ≤ b → 0 < n → ∃ v m : Nat, n = 2 ^ v * (2 * m + 1) ∧ n - (n &&& (n - 1)) = 2 ^ v ∧ (n &&& (n - 1)) ≤ n
  | 0, n, h, h0 => by omega
  | b + 1, n, h, h0 => by
    rcases (show n % 2 = 1 ∨ n % 2 = 0 by omega) with ho | he
    · refine ⟨0, n / 2, by omega, ?_, ?_⟩
      · have e := and_odd (n / 2)
        rw [show 2 * (n / 2) + 1 = n by omega, show 2 * (n / 2) = n - 1 by omega] at e
        rw [e]
        omega
      · exact Nat.and_le_left
    · obtain ⟨v, m, e1, e2, e3⟩ := low_bit b (n / 2) (by omega) (by omega)
      refine ⟨v + 1, m, ?_, ?_, Nat.and_le_left⟩
      · rw [Nat.pow_succ, Nat.mul_comm (2 ^ v) 2, Nat.mul_assoc, ← e1]
        omega
      · have e := and_even (k := n / 2) (by omega)
        rw [show 2 * (n / 2) = n by omega] at e
        rw [e, Nat.pow_succ, ← e2]
        omega
theorem bits_low {x : Int} (hx : x ≠ 0) : ∃ (v : Nat) (m : Int), x = 2 ^ v * m ∧ m % 2 = 1 ∧ Builtin.Int.intBits (Builtin.bitAnd x (-x)) = v + 1 := by
  obtain ⟨v, m, e1, e2, e3⟩ := low_bit x.natAbs x.natAbs (Nat.le_refl _) (by omega)
  have ea : Builtin.bitAnd x (-x) = ((2 ^ v : Nat) : Int) := by
    rcases (show 0 < x ∨ x < 0 by omega) with h | h
    · rw [bitAnd_pn (by omega) (by omega)]
      have e : (Builtin.bitNot (-x)).toNat = x.natAbs - 1 := by
        unfold Builtin.bitNot
        omega
      rw [e, show x.toNat = x.natAbs by omega, ← e2]
      omega
    · rw [bitAnd_np (by omega) (by omega)]
      have e : (Builtin.bitNot x).toNat = x.natAbs - 1 := by
        unfold Builtin.bitNot
        omega
      rw [e, show (-x).toNat = x.natAbs by omega, ← e2]
      omega
  have p0 : 0 < 2 ^ v := Nat.pow_pos (by decide)
  have eb : Builtin.Int.intBits (Builtin.bitAnd x (-x)) = v + 1 := by
    rw [ea]
    unfold Builtin.Int.intBits
    rw [if_neg (show ¬ ((((2 ^ v : Nat) : Int) == 0) = true) from fun z => by
      have := eq_of_beq z
      omega), Int.natAbs_natCast, Nat.log2_two_pow]
  have ec : ((2 : Int) ^ v) = ((2 ^ v : Nat) : Int) := by rw [Int.natCast_pow]; rfl
  rcases (show 0 < x ∨ x < 0 by omega) with h | h
  · refine ⟨v, 2 * (m : Int) + 1, ?_, by omega, eb⟩
    have : x = (x.natAbs : Int) := by omega
    rw [this, e1, Int.natCast_mul, ec]
    rfl
  · refine ⟨v, -(2 * (m : Int) + 1), ?_, by omega, eb⟩
    have : x = -(x.natAbs : Int) := by omega
    rw [this, e1, Int.natCast_mul, ec, Int.mul_neg]
    rfl
theorem partF_zero (e : Nat) : partF e 0 = (0, 0) := by
  induction e with
  | zero => rfl
  | succ e ih => exact ih
theorem two_even (v : Nat) (m : Int) : (2 ^ (v + 1) * m) % 2 = 0 ∧ (2 ^ (v + 1) * m) / 2 = 2 ^ v * m := by
  have e : (2 : Int) ^ (v + 1) * m = 2 * (2 ^ v * m) := by
    rw [Int.pow_succ, Int.mul_comm (2 ^ v) 2, Int.mul_assoc]
  rw [e]
  omega
theorem partF_val : ∀ (e v : Nat) (m : Int), m % 2 = 1 → partF e (2 ^ v * m) = ((2 ^ v * m) / 2 ^ (min v e), e - min v e)
  | 0, v, m, h => by
    rw [Nat.min_zero, Int.pow_zero, Int.ediv_one]
    rfl
  | e + 1, 0, m, h => by
    unfold partF
    rw [Int.pow_zero, Int.one_mul, if_neg (by omega), Nat.zero_min, Int.pow_zero, Int.ediv_one]
    rfl
  | e + 1, v + 1, m, h => by
    unfold partF
    rw [if_pos (two_even v m).1, (two_even v m).2, partF_val e v m h, Nat.succ_min_succ]
    refine Prod.ext ?_ ?_
    · show 2 ^ v * m / 2 ^ min v e = 2 ^ (v + 1) * m / 2 ^ (min v e + 1)
      rw [Int.pow_succ, Int.pow_succ, Int.mul_comm (2 ^ v) 2, Int.mul_comm (2 ^ min v e) 2, Int.mul_assoc, Int.mul_ediv_mul_of_pos _ _ (by decide)]
    · show e - min v e = e + 1 - (min v e + 1)
      omega
theorem partF_shift (e k : Nat) (n : Int) : partF (e + k) (n * 2 ^ k) = partF e n := by
  induction k with
  | zero => rw [Int.pow_zero, Int.mul_one]; rfl
  | succ k ih =>
    show (if (n * 2 ^ (k + 1)) % 2 = 0 then partF (e + k) ((n * 2 ^ (k + 1)) / 2) else (n * 2 ^ (k + 1), e + k + 1)) = partF e n
    have e1 : n * 2 ^ (k + 1) = 2 * (n * 2 ^ k) := by
      rw [Int.pow_succ, ← Int.mul_assoc, Int.mul_comm]
    rw [if_pos (by rw [e1]; omega), show n * 2 ^ (k + 1) / 2 = n * 2 ^ k by rw [e1]; omega]
    exact ih
theorem partF_is : ∀ (e : Nat) (n : Int), (partF e n).2 = 0 ∨ (partF e n).1 % 2 = 1
  | 0, n => .inl rfl
  | e + 1, n => by
    unfold partF
    by_cases h : n % 2 = 0
    · rw [if_pos h]
      exact partF_is e _
    · rw [if_neg h]
      right
      show n % 2 = 1
      omega
theorem partF_le : ∀ (e : Nat) (n : Int), (partF e n).1.natAbs ≤ n.natAbs ∧ (partF e n).2 ≤ e
  | 0, n => ⟨Nat.le_refl _, Nat.le_refl _⟩
  | e + 1, n => by
    unfold partF
    by_cases h : n % 2 = 0
    · rw [if_pos h]
      have := partF_le e (n / 2)
      omega
    · rw [if_neg h]
      exact ⟨Nat.le_refl _, Nat.le_refl _⟩
/-- what is a part already stays -/
theorem partF_id {e : Nat} {n : Int} (h : e = 0 ∨ n % 2 = 1) : partF e n = (n, e) := by
  cases e with
  | zero => rfl
  | succ e =>
    unfold partF
    rw [if_neg (by omega)]
theorem sum_shift (a b : Int) (e1 e2 : Nat) : partF (max e1 e2) (a * 2 ^ (max e1 e2 - e1) + b * 2 ^ (max e1 e2 - e2)) = partF (e1 + e2) (a * 2 ^ e2 + b * 2 ^ e1) := by
  have h1 : max e1 e2 + min e1 e2 = e1 + e2 := by omega
  rw [← partF_shift (max e1 e2) (min e1 e2), h1, Int.add_mul, Int.mul_assoc, Int.mul_assoc, ← Int.pow_add, ← Int.pow_add, show max e1 e2 - e1 + min e1 e2 = e2 by omega, show max e1 e2 - e2 + min e1 e2 = e1 by omega]
theorem bits_least {n c : Nat} (h : n < 2 ^ c) (h' : ∀ d, d < c → 2 ^ d ≤ n) : Builtin.Int.intBits (n : Int) = c := by
  unfold Builtin.Int.intBits
  by_cases h0 : n = 0
  · subst h0
    rw [if_pos (show ((((0 : Nat) : Int) == 0) = true) from rfl)]
    cases c with
    | zero => rfl
    | succ c => have := h' 0 (by omega); simp at this
  · rw [if_neg (show ¬ (((n : Int) == 0) = true) from fun z => by
      have := eq_of_beq z
      omega), Int.natAbs_natCast]
    cases c with
    | zero => simp at h; omega
    | succ c =>
      have h1 := h' c (by omega)
      have := (Nat.log2_eq_iff h0 (k := c)).mpr ⟨h1, h⟩
      omega
end Zk
set_option Elab.async false
set_option linter.all false
set_option maxRecDepth 100000
set_option maxHeartbeats 2000000
/-! Generator expressions whose element is any expression of the layer (calls of defs, captured names), consumed by all(..): after the pattern of the list comprehension's rule, over segments. -/
namespace Zk
open PySem PySem.Spec PyProof.Rows L2 GenW GxR
/-- the context of a generator expression's frame, running in A -/
abbrev gen (X : Cx) (s : Shared) (H : Hp) (cenv : Env) (fp : List Addr) (A : Around) : Cx := { X with s_0 := s, H_0 := H, A := A, env := cenv, outer := X.stack, stack := cenv :: X.stack, ex := fp, fn := fun _ => false, pn := [], xe := fun _ _ => False }
theorem over_comp {A : Around} {e : Expr} {it acc : Value} {env : Env} (he : ∃ elt gs sc p, e = .GeneratorExp elt gs sc p) : A.over (.compLoop e 0 it acc env) [] = A.deeper env := by
  obtain ⟨elt, gs, sc, p, rfl⟩ := he
  first
    | rfl
    | (obtain ⟨hd, d, fr, gs, u⟩ := A; simp [Around.over, Around.deeper, marksOver, frameCount, unitsOf, envsOf, guardsOf, pushEnvs, pushGuards, Code.envs, Code.env?, Code.isFrame, Code.guards, Code.isGuard, Code.weight, Code.frames, Code.isCreation, Code.isCaller, Code.cUnits])
theorem over_compS {A : Around} {e : Expr} {it acc : Value} {env : Env} (he : ∃ elt gs sc p, e = .GeneratorExp elt gs sc p) : A.over (.compStart e 0 it acc env) [] = A.deeper env := by
  obtain ⟨elt, gs, sc, p, rfl⟩ := he
  first
    | rfl
    | (obtain ⟨hd, d, fr, gs, u⟩ := A; simp [Around.over, Around.deeper, marksOver, frameCount, unitsOf, envsOf, guardsOf, pushEnvs, pushGuards, Code.envs, Code.env?, Code.isFrame, Code.guards, Code.isGuard, Code.weight, Code.frames, Code.isCreation, Code.isCaller, Code.cUnits])
section
variable {X : Cx} {pins : List (Addr × Obj)} {σ : L2.St} {H : Hp} {s : Shared}
theorem gen_start {scope : Scope} {own : List (Str × Nat)} {fp : List Addr} {cenv : Env} {code : Value} {A : Around} {s5 : Shared} {m : Str → Option Value} (I : Inv X pins σ H s) (ok : BlkOk X.N X.env.scope scope own) (hN : X.N.Nodup) (hnc : ∀ y ∈ scope.names, y.2 ≠ .cell)
    (hfp : ∀ b ∈ fp, FpOk X pins H b ∧ b < s.heap.objs.size) (hcenv : cenv = genEnv scope (cloFrom X.env.cells scope.names []) s.heap.objs.size code builtinsNs X.env) (hA : A.frames = some (cenv :: X.stack)) (hAh : A.handled = none)
    (hos : s5.os = s.os) (hb5 : AllBare s5.gens) (kp : ∀ b o, s.heap.get? b = some o → s5.heap.get? b = some o) (hns : s5.heap.Ns s.heap.objs.size m) :
    Inv (gen X s H cenv fp A) [] (wipe σ (own.map (·.2))) H s5 := by
  have hfree : ∀ y ∈ scope.names, y.2 = .free → ∃ c, X.env.cells.lookup y.1 = some c := fun y hy e => by
    rcases ok.free y hy e with k | k
    · exact I.ok.has _ (.inl k)
    · exact I.ok.has _ (.inr k)
  have hL : cenv.locals = s.heap.objs.size := by rw [hcenv]; rfl
  have hcl : cenv.cells = cloFrom X.env.cells scope.names [] := by rw [hcenv]; rfl
  have hsc : cenv.scope = scope := by rw [hcenv]; rfl
  have cm : ∀ {y c}, (y, c) ∈ cloFrom X.env.cells scope.names [] → X.env.cells.lookup y = some c ∧ c < s.heap.objs.size := fun {y c} hm => by
    rcases cloFrom_mem hm with hm | ⟨h1, rfl⟩
    · cases hm
    · obtain ⟨c, hc⟩ := hfree _ h1 rfl
      rw [hc]
      obtain ⟨w, z⟩ := I.cell _ _ hc
      exact ⟨rfl, z.lt⟩
  have mem : ∀ {y c}, cenv.cells.lookup y = some c → X.env.cells.lookup y = some c ∧ c < s.heap.objs.size := fun {y c} e => by
    rw [hcl] at e
    exact cm (PySem.mem_of_lookup e)
  have look : ∀ {y}, scope.names.lookup y = some .free → ∃ c, cenv.cells.lookup y = some c ∧ X.env.cells.lookup y = some c := fun {y} hl => by
    have hy : (y, NameKind.free) ∈ scope.names := PySem.mem_of_lookup hl
    obtain ⟨c', e'⟩ := mem_lookup (cloFrom_has (cells := X.env.cells) (acc := []) hy)
    rw [← hcl] at e'
    exact ⟨c', e', (mem e').1⟩
  have okB : (gen X s H cenv fp A).Ok := by
    refine ⟨I.ok.mod, by show cenv.scope.kind = _; rw [hsc]; exact ok.kind, by show cenv.globals = _; rw [hcenv]; exact I.ok.glob, by show cenv.builtins = _; rw [hcenv]; rfl, by show s.heap.objs.size ≤ cenv.locals; rw [hL]; exact Nat.le_refl _,
      fun y z c e1 e2 => ?_, fun y hy => ?_, fun y c z e => ?_, fun _ => hAh, hA, .inr ⟨rfl, ?_⟩, fun b hb => ⟨?_, fun y c e z => ?_⟩, I.bs, Nat.le_trans I.ok.bsz I.sz, fun b o e hb => ?_, fun b hb z => ?_, I.stack, I.stkFree⟩
    · exact I.ok.inj y z c (mem e1).1 (mem e2).1
    · show ∃ c, cenv.cells.lookup y = some c
      have key : ∀ k, cenv.kindOf y = some k → (k = .cell ∨ k = .free) → ∃ c, cenv.cells.lookup y = some c := fun k hk hk' => by
        unfold Env.kindOf at hk
        rw [hsc] at hk
        rcases hk' with rfl | rfl
        · exact absurd rfl (hnc _ (PySem.mem_of_lookup hk))
        · obtain ⟨c, h1, _⟩ := look hk
          exact ⟨c, h1⟩
      rcases hy with hy | hy
      · exact key _ hy (.inl rfl)
      · exact key _ hy (.inr rfl)
    · cases z
    · show cenv.frame = some cenv.locals
      rw [hcenv]
      rfl
    · show b ≠ cenv.locals
      rw [hL]; exact Nat.ne_of_lt (hfp b hb).2
    · exact (hfp b hb).1.2.2.2.2.1 y c (mem e).1 z
    · rcases (hfp b hb).1.2.2.2.1 with z | z
      · exact I.ok.noex b o e z
      · exact absurd (Nat.lt_of_lt_of_le (Heap.lt_size e) (Nat.le_trans I.ok.bsz z)) (Nat.lt_irrefl _)
    · rcases List.mem_cons.mp (I.stkSub b z) with z | z
      · exact (hfp b hb).1.2.1 z
      · exact (hfp b hb).1.2.2.1 z
  refine ⟨okB, hos, hb5, Un.kept kp, ⟨m, ?_, fun i y av e1 e2 e3 => ?_⟩, fun y c e => ?_, ?_, fun y c e => ?_, fun p hp => ?_, I.hok.kept kp, by rw [wipe_length]; exact I.len⟩
  · show Heap.Ns _ cenv.locals _
    rw [hL]
    exact hns
  · obtain ⟨e2, hne⟩ := wipe_some e2
    have hfr : scope.names.lookup y = some .free := by
      have key : ∀ k, cenv.scope.names.lookup y = some k → k = .local ∨ k = .cell ∨ k = .free → scope.names.lookup y = some .free := fun k hk hk' => by
        rw [hsc] at hk
        rcases hk' with rfl | rfl | rfl
        · exfalso
          rcases ok.own _ (PySem.mem_of_lookup hk) (.inl rfl) with e' | e'
          · obtain ⟨p, hp, hpy⟩ := List.mem_map.mp e'
            have e3 := ok.ix p hp
            have : p.1 = y := hpy
            rw [this] at e3
            exact hne (List.mem_map.mpr ⟨p, hp, nodup_ix hN e3 e1⟩)
          · exact e' (List.mem_of_getElem? e1)
        · exact absurd rfl (hnc _ (PySem.mem_of_lookup hk))
        · exact hk
      have e3 : Vis cenv.scope y := e3
      rcases e3 with e3 | e3 | e3
      · exact key _ e3 (.inl rfl)
      · exact key _ e3 (.inr (.inl rfl))
      · exact key _ e3 (.inr (.inr rfl))
    obtain ⟨m, hn, hl⟩ := I.loc
    have hvis : Vis X.env.scope y := (ok.free _ (PySem.mem_of_lookup hfr) rfl).elim (fun k => .inr (.inl k)) (fun k => .inr (.inr k))
    obtain ⟨w, r, q⟩ := hl i y av e1 e2 hvis
    refine ⟨w, r, .inr ⟨.inr ?_, ?_⟩⟩
    · show cenv.scope.names.lookup y = some .free
      rw [hsc]
      exact hfr
    obtain ⟨c, h1, h2⟩ := look hfr
    rcases q with ⟨k, _⟩ | ⟨_, c', e', z⟩
    · have k : X.env.scope.names.lookup y = some .local := k
      rcases ok.free _ (PySem.mem_of_lookup hfr) rfl with k' | k' <;> rw [show X.env.scope.names.lookup y = _ from k'] at k <;> cases k
    · rw [h2] at e'; cases e'
      exact ⟨c, h1, z.keeps kp⟩
  · obtain ⟨w, z⟩ := I.cell y c (mem e).1
    exact ⟨w, z.keeps kp⟩
  · show H cenv.locals = none
    rw [hL]; exact I.hok.fresh (Nat.le_refl _)
  · exact I.freeC y c (mem e).1
  · exact absurd (show p ∈ ([] : List (Addr × Obj)) ++ [] from hp) (by simp)
/-- all that stood stands as it was -/
def Woken (s s'' : Shared) : Prop := s''.os = s.os ∧ AllBare s''.gens ∧ ∀ b o, s.heap.get? b = some o → s''.heap.get? b = some o
theorem inv_woken {s'' : Shared} (I : Inv X pins σ H s) (w : Woken s s'') : Inv X pins σ H s'' := by
  obtain ⟨h', g', d', t', o'⟩ := s''
  obtain ⟨w1, w2, w3⟩ := w
  have e : o' = s.os := w1
  subst e
  refine I.step (g' := g') (d' := d') (t' := t') (ch := []) (fun b hb => absurd hb (by simp)) (fun b o _ _ _ e _ => w3 b o e) (fun b o _ _ _ e _ => ⟨o.slots, w3 b o e⟩) (fun _ _ _ _ n => n)
    (fun b o _ e => ⟨o, w3 b o e⟩) (fun _ _ e => e) (fun _ _ _ e => e) (fun b ps e => ⟨#[], by rw [e]; simp⟩) (fun m hm => ?_) (fun b u e => ?_) w2
  · obtain ⟨ob, es, ep, ho, r⟩ := hm
    exact ⟨ob, es, ep, w3 _ ob ho, r⟩
  · exact (I.hok b u e).stay (fun d v _ q => w3 d v q) (fun d q => q) fun d xs q => q
/-! ### all(.. for .. in ..) -/
/-- an item is handed out: a truth -/
def YAll (G : Cx) (p0 : List (Addr × Obj)) (Qf : Hp → Prop) : Protocol := fun _ _ v s kap =>
  ∃ (k : Bool) (σ2 : L2.St) (H : Hp), v = .bool k ∧ Inv G p0 σ2 H s ∧ (k = true → ∀ s'', Woken s s'' → kap (.send .none) s'') ∧ (k = false → Qf H)
def FAll (G : Cx) (p0 : List (Addr × Obj)) (Qt : Hp → Prop) : Nat → Shared → Shared → Prop := fun _ _ s => ∃ (σ2 : L2.St) (H : Hp), Inv G p0 σ2 H s ∧ Qt H
def RAll (G : Cx) (p0 : List (Addr × Obj)) (Qt : Hp → Prop) : GenEnd := fun n s₀ r s₁ => ((r = .ok (.ret .none) ∨ r = .ok .next) ∧ FAll G p0 Qt n s₀ s₁) ∨ ∃ e, r = .error e ∧ (fun (_ : Value) (_ : Shared) => False) e s₁
/-- what the loop's turns ask -/
def AllTurns (J : It) (g : TG) (tt : TT) (te : TE) (vs : List Nat) (σw : L2.St) (W : Nat → Nat → Hp → Prop) (Qt Qf : Hp → Prop) : Prop :=
  ∀ i m H, W i m H → (J.stop i H ∧ Qt H) ∨ (J.go i H ∧ ∃ Nx : Hp → Prop, (∀ H', Nx H' → ∃ m', m' < m ∧ W (i + 1) m' H') ∧ ∀ x H', J.yld i H x H' → g x σw H' fun σ2 H2 => wipe σ2 vs = σw ∧ tt σ2 H2 fun b H3 =>
    if b = true then te σ2 H3 fun y H4 => ∃ k, y = .bl k ∧ (if k = true then Nx H4 else Qf H4) else Nx H3)
theorem seg_all {elt tg iter : Expr} {ifs : List Expr} {scope : Scope} {pos : Pos} {it : Addr} {fp : List Addr} {tn : Nat → Heap → Prop} {J : It} {W : Nat → Nat → Hp → Prop} {σw : L2.St} {vs : List Nat} {A : Around} {cenv : Env} {s3 : Shared} {H3 : Hp} {p0 : List (Addr × Obj)} {Qt Qf : Hp → Prop} {g : TG} {tt : TT} {te : TE}
    (hc : X.calm = true) (hco : cenv.scope.isCoroutine = false) (T : Turn X.prog X.w X.K tg J fp it tn) (hp0 : ∀ p ∈ p0, p.1 ∉ fp)
    (pg : PG (gen X s3 H3 cenv fp (A.deeper cenv)) tg g) (pt : PTs (gen X s3 H3 cenv fp (A.deeper cenv)) ifs tt) (pe : PE (gen X s3 H3 cenv fp (A.deeper cenv)) elt te) (turn : AllTurns J g tt te vs σw W Qt Qf) :
    ∀ (m i n : Nat) (s₀ s : Shared) (H : Hp), m < n → Inv (gen X s3 H3 cenv fp (A.deeper cenv)) p0 σw H s → tn i s.heap → (∀ b ∈ fp, H b = none) → W i m H →
      Seg (model X.prog X.w) A (RAll (gen X s3 H3 cenv fp (A.deeper cenv)) p0 Qt) (YAll (gen X s3 H3 cenv fp (A.deeper cenv)) p0 Qf) n s₀ (.compLoop (.GeneratorExp elt [⟨tg, iter, ifs, 0⟩] scope pos) 0 (.ref it) .none cenv)
        ((model X.prog X.w).den (.compLoop (.GeneratorExp elt [⟨tg, iter, ifs, 0⟩] scope pos) 0 (.ref it) .none cenv)) [] s := by
  have ov : A.over (.compLoop (.GeneratorExp elt [⟨tg, iter, ifs, 0⟩] scope pos) 0 (.ref it) .none cenv) [] = A.deeper cenv := over_comp ⟨_, _, _, _, rfl⟩
  have stat : ∀ {σ' : L2.St} {H' : Hp} {s' : Shared}, Inv (gen X s3 H3 cenv fp (A.deeper cenv)) p0 σ' H' s' → (∀ b ∈ fp, H' b = none) → ∀ b ∈ fp, FpOk (gen X s3 H3 cenv fp (A.deeper cenv)) p0 H' b := fun {σ' H' s'} I' hn b hb =>
    ⟨hn b hb, (I'.ok.exf b hb).1, I'.ok.exfs b hb, .inl hb, fun x c e => (I'.ok.exf b hb).2 x c e, fun p hp z => by
      rcases List.mem_append.mp hp with hp | hp
      · cases hp
      · exact hp0 p hp (z ▸ hb)⟩
  intro m
  induction m using Nat.strongRecOn with
  | ind m ih =>
    intro i n s₀ s H hmn I st nf w
    obtain ⟨n, rfl⟩ : ∃ k, n = k + 1 := ⟨n - 1, by omega⟩
    show Seg _ A _ _ _ s₀ _ ((compTurn (.GeneratorExp elt [⟨tg, iter, ifs, 0⟩] scope pos) 0 (.ref it) .none cenv).onRaise (leaving cenv)) [] s
    rw [compTurn_gen, Sem.onRaise_eq_wrap]
    refine seg_bind_wrap (wpAny_standAt ?_)
    rcases turn i m H w with ⟨stop, qq⟩ | ⟨go, Nx, hNx, step⟩
    · have td := T.done (gen X s3 H3 cenv fp (A.deeper cenv)) rfl rfl rfl hc i p0 s _ H (fun _ _ => False) I (stat I nf) st stop
      refine seg_bind_wrap ?_
      rw [ov]
      refine thnF td fun r s6 ⟨hr, I6⟩ => ?_
      subst hr
      exact seg_end (.ok .next) (.inl ⟨.inr rfl, _, _, I6, qq⟩)
    · have ti := T.item (gen X s3 H3 cenv fp (A.deeper cenv)) rfl rfl rfl hc i p0 s _ H (fun _ _ => False) I (stat I nf) st go
      refine seg_bind_wrap ?_
      rw [ov]
      refine thnF ti fun r s6 ⟨u, hr, h6⟩ => ?_
      subst hr
      refine seg_bind_wrap ?_
      rw [ov]
      refine thnF h6 fun _ s7 ⟨x, H7, I7, r7, y7, st7, n7⟩ => ?_
      have I7' := I7.pinned (stat I7 n7) (T.obj _ _ st7)
      refine seg_bind_wrap ?_
      rw [ov]
      refine thnF (pg.run _ s7 _ H7 x u _ I7' r7 (step x H7 y7)) fun _ s8 ⟨σ8, H8, I8, hw8, q8⟩ => ?_
      refine seg_bind_wrap ?_
      rw [ov]
      refine thnF (pt.run _ s8 σ8 H8 _ I8 q8) fun b s9 ⟨H9, I9, q9⟩ => ?_
      -- the turn's end
      have fin : ∀ {s' s'' : Shared} {H' : Hp} {n' : Nat} {s0' : Shared}, Inv (gen X s3 H3 cenv fp (A.deeper cenv)) (p0 ++ pinsAt fp s7.heap) σ8 H' s' → Woken s' s'' → Nx H' → m ≤ n' →
          Seg (model X.prog X.w) A (RAll (gen X s3 H3 cenv fp (A.deeper cenv)) p0 Qt) (YAll (gen X s3 H3 cenv fp (A.deeper cenv)) p0 Qf) n' s0' (.compLoop (.GeneratorExp elt [⟨tg, iter, ifs, 0⟩] scope pos) 0 (.ref it) .none cenv)
            ((model X.prog X.w).den (.compLoop (.GeneratorExp elt [⟨tg, iter, ifs, 0⟩] scope pos) 0 (.ref it) .none cenv)) [] s'' := fun {s' s'' H' n' s0'} I' wk nx hn' => by
        obtain ⟨m', hm, w'⟩ := hNx H' nx
        have pin' : ∀ b ∈ fp, ∀ o, s7.heap.get? b = some o → s'.heap.get? b = some o ∧ H' b = none := fun b hb o e =>
          let z := I'.pin (b, o) (List.mem_append_right _ (List.mem_append_right _ (mem_pinsAt hb e)))
          ⟨z.1, z.2.1⟩
        have hl : σw.length = σ8.length := by rw [← hw8, wipe_length]
        refine ih m' hm (i + 1) n' s0' s'' H' (by omega) (inv_woken ((I'.unpinned (pins := p0)).weak hl (fun j v e => ?_)) wk) (T.keep _ _ _ st7 fun b hb o e => wk.2.2 b o (pin' b hb o e).1) (fun b hb => ?_) w'
        · rw [← hw8] at e
          exact (wipe_some e).1
        · obtain ⟨o, e, _⟩ := T.obj _ _ st7 b hb
          exact (pin' b hb o e).2
      have wk0 : ∀ {s' : Shared} {H' : Hp} {pl : List (Addr × Obj)} {σ' : L2.St}, Inv (gen X s3 H3 cenv fp (A.deeper cenv)) pl σ' H' s' → Woken s' s' := fun I' => ⟨rfl, I'.bare, fun _ _ e => e⟩
      cases b with
      | false =>
        simp only [Bool.false_eq_true, if_false] at q9 ⊢
        exact seg_again rfl (fin I9 (wk0 I9) q9 (by omega))
      | true =>
        simp only [if_true] at q9 ⊢
        have hy : ∀ v, yieldOut cenv v = yieldValue v := fun v => by simp only [yieldOut, hco, Bool.false_eq_true, if_false]
        simp only [hy]
        rw [Sem.bind_eq_wrap', Sem.bind_eq_wrap', Sem.wrap_wrap, Sem.wrap_wrap]
        refine seg_wrap ?_
        rw [ov]
        refine thnF (pe.run _ s9 σ8 H9 _ I9 q9) fun z s10 ⟨yv, H10, I10, r10, k, hk, nx⟩ => ?_
        subst hk
        cases (show z = Value.bool k from r10)
        refine seg_at (seg_yield rfl rfl rfl ⟨k, σ8, H10, rfl, I10.unpinned, fun hk s'' wk => ?_, fun hk => ?_⟩)
        · rw [if_pos hk] at nx
          exact seg_again rfl (fin I10 wk nx (by omega))
        · rw [hk] at nx
          simpa using nx
theorem seg_allStart {elt tg iter : Expr} {ifs : List Expr} {scope : Scope} {pos : Pos} {it : Addr} {fp : List Addr} {tn : Nat → Heap → Prop} {J : It} {W : Nat → Nat → Hp → Prop} {σw : L2.St} {vs : List Nat} {A : Around} {cenv : Env} {s3 : Shared} {H3 : Hp} {p0 : List (Addr × Obj)} {Qt Qf : Hp → Prop} {g : TG} {tt : TT} {te : TE}
    (hc : X.calm = true) (hco : cenv.scope.isCoroutine = false) (T : Turn X.prog X.w X.K tg J fp it tn) (hp0 : ∀ p ∈ p0, p.1 ∉ fp)
    (pg : PG (gen X s3 H3 cenv fp (A.deeper cenv)) tg g) (pt : PTs (gen X s3 H3 cenv fp (A.deeper cenv)) ifs tt) (pe : PE (gen X s3 H3 cenv fp (A.deeper cenv)) elt te) (turn : AllTurns J g tt te vs σw W Qt Qf)
    (m n : Nat) (s₀ s : Shared) (H : Hp) (hmn : m < n) (I : Inv (gen X s3 H3 cenv fp (A.deeper cenv)) p0 σw H s) (st : tn 0 s.heap) (nf : ∀ b ∈ fp, H b = none) (w : W 0 m H) :
      Seg (model X.prog X.w) A (RAll (gen X s3 H3 cenv fp (A.deeper cenv)) p0 Qt) (YAll (gen X s3 H3 cenv fp (A.deeper cenv)) p0 Qf) n s₀ (.compStart (.GeneratorExp elt [⟨tg, iter, ifs, 0⟩] scope pos) 0 (.ref it) .none cenv)
        ((model X.prog X.w).den (.compStart (.GeneratorExp elt [⟨tg, iter, ifs, 0⟩] scope pos) 0 (.ref it) .none cenv)) [] s := by
  have loop := fun s₀ => seg_all (iter := iter) (scope := scope) (pos := pos) hc hco T hp0 pg pt pe turn m 0 n s₀ s H hmn I st nf w
  show Seg _ A _ _ _ s₀ _ ((compStart (.GeneratorExp elt [⟨tg, iter, ifs, 0⟩] scope pos) 0 (.ref it) .none cenv).onRaise (leaving cenv)) [] s
  unfold compStart
  rw [Sem.onRaise_eq_wrap]
  show Seg _ A _ _ _ s₀ _ ((ask >>= _).wrap _ _ _ _) [] s
  refine seg_bind_wrap (wpAny_askSetting ?_)
  split
  · exact seg_again rfl (loop s₀)
  · first
      | exact seg_bind_wrap (wpAny_rule (seg_bind_wrap (wpAny_standAt (seg_bind_wrap (T.self _ 0 s _ _ st (seg_again rfl (loop s₀)))))))
      | (refine seg_bind_wrap (wpAny_rule ?_); show Seg _ A _ _ _ s₀ _ ((standAt iter.pos >>= _).wrap _ _ _ _) [] s; exact seg_bind_wrap (wpAny_standAt (seg_bind_wrap (T.self _ 0 s _ _ st (seg_again rfl (loop s₀))))))
theorem wk_setGen {s s1 : Shared} {g : Nat} {x : GenState} (w : Woken s s1) (hx : x.bare = true) : Woken s (s1.setGen g x) := ⟨w.1, allBare_setGen w.2.1 hx, w.2.2⟩
/-- the loop of all over such a generator -/
theorem all_loop {G : Cx} {p0 : List (Addr × Obj)} {Qt Qf : Hp → Prop} {A : Around} {R : Result → Shared → Prop} {a : Addr} {g : Nat} {oa : Obj} (hh : A.handled = none) (hd : A.depth < recursionLimit)
    (hpa : (a, oa) ∈ p0) (hga : ∀ h : Heap, h.get? a = some oa → h.IsGen a g)
    (hT : ∀ s1 s' σ2 H, Inv G p0 σ2 H s1 → Qt H → Woken s1 s' → R (.ok (.ret (.bool true))) s') (hF : ∀ s1 s' σ2 H, Inv G p0 σ2 H s1 → Qf H → Woken s1 s' → R (.ok (.ret (.bool false))) s') :
    ∀ (n : Nat) (s : Shared), s.heap.IsGen a g → s.heap.NoLimit →
      (∃ gs, s.gens[g]? = some gs ∧ gs.Goes (model G.prog G.w) A.in1.in1 (RAll G p0 Qt) (YAll G p0 Qf) n (.send .none) (s.setGen g .running)) →
      codeAny (model G.prog G.w) A (.builtin "all.loop" ⟨[.ref a], []⟩) R s := by
  intro n
  induction n with
  | zero =>
    intro s hg hl ⟨gs, hgs, hgo⟩
    refine codeAny_builtin F.entry_all_loop ?_
    rw [Around.under_plainId F.plain_all_loop _]
    show wpAny _ A.in1 (pyNext (.ref a) >>= _) _ _ s
    refine wpAny_bind (next_genG (A := A.in1) (F := FAll G p0 Qt) (Er := fun _ _ => False) hh hl hd hg hgs hgo (fun v s₁ gs' hbare hv => ?_) (fun s₁ hp h' hk => ?_) fun e s₁ he => he.elim)
    · obtain ⟨k, σ2, H, rfl, I, hk1, hk0⟩ := hv
      cases k with
      | true => exact (hk1 rfl s₁ ⟨rfl, I.bare, fun _ _ e => e⟩).elim
      | false =>
        show wpAny _ A.in1 (holding [Value.bool false] (truthy (.bool false)) >>= _) _ _ _
        refine wpAny_bind (wpAny_holding (wpAny_truthy_bool ?_))
        refine wpAny_bind (wpAny_letGo ?_)
        simp only [Bool.false_eq_true, if_false]
        refine wpAny_bind (wpAny_rule (wpAny_pure ?_))
        exact hF s₁ _ σ2 H I (hk0 rfl) (wk_setGen ⟨rfl, I.bare, fun _ _ e => e⟩ hbare)
    · obtain ⟨σ2, H, I, hq⟩ := hp
      refine wpAny_bind (wpAny_rule (wpAny_pure ?_))
      exact hT s₁ _ σ2 H I hq ⟨rfl, allBare_setGen I.bare rfl, hk⟩
  | succ n ih =>
    intro s hg hl ⟨gs, hgs, hgo⟩
    have hgl : g < s.gens.size := (Array.getElem?_eq_some_iff.mp hgs).1
    refine codeAny_builtin F.entry_all_loop ?_
    rw [Around.under_plainId F.plain_all_loop _]
    show wpAny _ A.in1 (pyNext (.ref a) >>= _) _ _ s
    refine wpAny_bind (wpAny_gsz (n := g + 1) hgl (next_genG (A := A.in1) (F := FAll G p0 Qt) (Er := fun _ _ => False) hh hl hd hg hgs hgo (fun v s₁ gs' hbare hv => ?_) (fun s₁ hp h' hk => ?_) fun e s₁ he => he.elim))
    · intro hsz
      obtain ⟨k, σ2, H, rfl, I, hk1, hk0⟩ := hv
      show wpAny _ A.in1 (holding [Value.bool k] (truthy (.bool k)) >>= _) _ _ _
      refine wpAny_bind (wpAny_holding (wpAny_truthy_bool ?_))
      refine wpAny_bind (wpAny_letGo ?_)
      have hsz1 : g < s₁.gens.size := by
        have q : (s₁.setGen g gs').gens.size = s₁.gens.size := setGen_size _ _ _
        have hsz' : g + 1 ≤ (s₁.setGen g gs').gens.size := hsz
        omega
      have w1 : Woken s₁ (s₁.setGen g gs') := wk_setGen ⟨rfl, I.bare, fun _ _ e => e⟩ hbare
      cases k with
      | true =>
        simp only [if_true]
        have ha : (s₁.setGen g gs').heap.get? a = some oa := (I.pin (a, oa) (List.mem_append_right _ hpa)).1
        refine wpAny_pure ⟨plainId_quiet F.plain_all_loop _, ih (s₁.setGen g gs') (hga _ ha) I.nolimit ⟨gs', setGen_at hsz1, hk1 rfl _ (wk_setGen w1 rfl)⟩⟩
      | false =>
        simp only [Bool.false_eq_true, if_false]
        refine wpAny_bind (wpAny_rule (wpAny_pure ?_))
        exact hF s₁ _ σ2 H I (hk0 rfl) w1
    · intro hsz
      obtain ⟨σ2, H, I, hq⟩ := hp
      refine wpAny_bind (wpAny_rule (wpAny_pure ?_))
      exact hT s₁ _ σ2 H I hq ⟨rfl, allBare_setGen I.bare rfl, hk⟩
/-- all(test for x in e): the element any expression of the layer -/
def tAllG (P : Addr) (wi : TI) (g : TG) (tt : TT) (te : TE) (vs : List Nat) : TE := fun σ H Q => wi σ H fun J H1 => TabG H1 P ∧ ∀ H2, Tabbed P H1 H2 →
  ∃ W : Nat → Nat → Hp → Prop, (∃ m, W 0 m H2) ∧ AllTurns J g tt te vs (wipe σ vs) W (fun H => Q (.bl true) H) (fun H => Q (.bl false) H)
/-- the generator expression's own scope -/
structure GScp (scope : Scope) : Prop where
  co : scope.isCoroutine = false
  nc : ∀ y ∈ scope.names, y.2 ≠ .cell
  dot : scope.names.lookup (".0" : Str) = some NameKind.local
theorem pe_all {c P : Addr} {elt tg iter : Expr} {ifs : List Expr} {scope : Scope} {own : List (Str × Nat)} {p pos gpos : Pos} {wi : TI} {g : TG} {tt : TT} {te : TE} {k : Nat}
    (hr : Room (k + 4) X.A) (hgl : Gl X "all") (hm : X.mg "all" = none) (TB : TabB X.base X.mg c P) (hcode : X.env.code = .ref c) (hc : X.calm = true) (hN : X.N.Nodup) (hi : PI X tg iter wi) (ok : BlkOk X.N X.env.scope scope own) (S : GScp scope)
    (hg : ∀ (s : Shared) (H : Hp) (C : Addr) (cl : List (Str × Addr)) (code : Value) (fp : List Addr) (A : Around), Room k A → PG (gen X s H (genEnv scope cl C code builtinsNs X.env) fp A) tg g)
    (ht : ∀ (s : Shared) (H : Hp) (C : Addr) (cl : List (Str × Addr)) (code : Value) (fp : List Addr) (A : Around), Room k A → PTs (gen X s H (genEnv scope cl C code builtinsNs X.env) fp A) ifs tt)
    (he : ∀ (s : Shared) (H : Hp) (C : Addr) (cl : List (Str × Addr)) (code : Value) (fp : List Addr) (A : Around), Room k A → PE (gen X s H (genEnv scope cl C code builtinsNs X.env) fp A) elt te)
    (hs : ∀ v, genFold iter X.env v = pure v)
    (hst : starEach [.GeneratorExp elt [⟨tg, iter, ifs, 0⟩] scope gpos] X.env = (false, eval (.GeneratorExp elt [⟨tg, iter, ifs, 0⟩] scope gpos) X.env) :: starEach [] X.env := by rfl) :
    PE X (.Call (.Name "all" p) [.GeneratorExp elt [⟨tg, iter, ifs, 0⟩] scope gpos] [] pos) (tAllG P wi g tt te (own.map (·.2))) := by
  refine ⟨fun pins s σ H Q I h => ?_⟩
  have hfree : ∀ y ∈ scope.names, y.2 = .free → ∃ c, X.env.cells.lookup y.1 = some c := fun y hy e => by
    rcases ok.free y hy e with k | k
    · exact I.ok.has _ (.inl k)
    · exact I.ok.has _ (.inr k)
  refine wpAny_Call_Name_kw (ld_blt I hgl hm (by decide +kernel : bootBuiltins "all" = some (.builtin "all")) ?_)
  refine PyProof.Rows.callWith_builtin1 ?_ hst (by rfl)
  rw [hst]
  show wpAny _ _ (spliced ((false, eval (.GeneratorExp elt [⟨tg, iter, ifs, 0⟩] scope gpos) X.env) :: backTo pos (starEach [] X.env))) _ _ s
  refine Calls.spliced_cons ?_
  refine wpAny_GeneratorExp_make S.co (closure_ok hfree) S.nc S.dot ok.kind (by have := hr.dp; omega) ?_ hs
  refine thn (hi.run pins s σ H _ I h) fun xv s1 hx => thn hx fun itv s2 h2 => ?_
  obtain ⟨it, fp, tn, J, H2, e, I2, T, st2, f2, ⟨ps, hP, ht0⟩, q⟩ := h2
  subst e
  refine ⟨I2.nolimit, ?_⟩
  have hPs : s2.heap.get? P = some { cls := .none, data := .fields ps } := I2.hok P _ hP
  have cd : PySem.W.CodeHd s2.heap c P := TB.code.keeps fun b u e => I2.bk b u e
  have fpP : ∀ b ∈ fp, b ≠ P := fun b hb z => by
    have := (f2 b hb).1
    rw [z, hP] at this
    cases this
  have sz : ∀ b ∈ fp, b < s2.heap.objs.size := fun b hb => by
    obtain ⟨o, e, _⟩ := T.obj _ _ st2 b hb
    exact Heap.lt_size e
  have cont : ∀ (code : Value) (h3 : Heap) (tk : Nat) (ps' : Array Value), Heap.ExtBut P s2.heap h3 → s2.heap.objs.size ≤ h3.objs.size → h3.get? P = some { cls := .none, data := .fields ps' } → (∃ more, ps' = ps ++ more) → TriplesOk ps'.toList →
      wpAny (model X.prog X.w) X.A (builtinsFor X.env.globals X.env.builtins) (fun bi s₄ =>
        ∀ h', h'.Ns s₄.heap.objs.size (fun y => if y = ".0" then some (.ref it) else none) → Heap.SameBut s₄.heap.objs.size (s₄.heap.push { cls := .type "frame", data := .dict #[] }) h' →
          wpAny (model X.prog X.w) X.A (spliced (backTo pos (starEach [] X.env))) (fun vs s₁ => wpAny (model X.prog X.w) X.A (call (.builtin "all") (.ref h'.objs.size :: vs)) (EP X pins σ Q) X.xe s₁) X.xe { s₄ with
            gens := s₄.gens.push (.fresh (.compStart (.GeneratorExp elt [⟨tg, iter, ifs, 0⟩] scope gpos) 0 (.ref it) .none (genEnv scope (cloFrom X.env.cells scope.names []) s₄.heap.objs.size code bi X.env))),
            toks := s₄.toks + 1 + 1 + 1,
            heap := h'.push { cls := .type "generator", data := .fields #[.int s₄.gens.size 0, .str "<genexpr>" (s₄.toks + 1), .str (X.env.qual ++ "<genexpr>") (s₄.toks + 1 + 1)] } }) X.xe { s2 with heap := h3, toks := tk } := by
    intro code h3 tk ps' hx hsz hP3 hmore ht3
    obtain ⟨more, rfl⟩ := hmore
    obtain ⟨bm, ob, e1, e2, e3, e4, e5, e6, e7, e8⟩ := TB.bm
    have keep3 : ∀ b u, b ≠ P → s2.heap.get? b = some u → h3.get? b = some u := fun b u hb e => hx b u hb e
    refine wpAny_builtinsFor (m := X.mg) (by rw [I2.ok.glob]; exact (I2.mod.glob.keeps I2.bk).extBut hx TB.gP) e1 e2 (keep3 _ _ e4 (I2.bk _ _ e5)) e6 e7 e8 ?_
    generalize hs4 : ({ s2 with heap := h3, toks := tk } : Shared) = s4
    have h4h : s4.heap = h3 := by rw [← hs4]
    have I4 : Inv X pins σ (upd H2 P (.tbl (ps ++ more))) s4 := by
      rw [← hs4]
      exact inv_tab (more := more) (h' := h3) (g' := s2.gens) (d' := s2.drawn) (t' := tk) I2 hP keep3 hP3 I2.bare
    have hT2 : Tabbed P H2 (upd H2 P (.tbl (ps ++ more))) := ⟨⟨_, upd_same, ht3⟩, fun b hb => upd_ne hb⟩
    obtain ⟨W, ⟨m0, w0⟩, turn⟩ := q _ hT2
    generalize hH4 : upd H2 P (.tbl (ps ++ more)) = H4 at I4 w0
    have f4 : ∀ b ∈ fp, FpOk X pins H4 b ∧ b < s4.heap.objs.size := fun b hb => by
      refine ⟨⟨?_, (f2 b hb).2⟩, by rw [h4h]; exact Nat.lt_of_lt_of_le (sz b hb) hsz⟩
      rw [← hH4, upd_ne (fpP b hb)]
      exact (f2 b hb).1
    have st4 : tn 0 s4.heap := T.keep _ _ _ st2 fun b hb o e => by rw [h4h]; exact keep3 b o (fpP b hb) e
    intro h' hn' hs'
    have hsz' : h'.objs.size = s4.heap.objs.size + 1 := by rw [hs'.1, Heap.size_push]
    have keep' : ∀ b o, s4.heap.get? b = some o → h'.get? b = some o := fun b o e => hs'.extBut b o (Nat.ne_of_lt (Heap.lt_size e)) (Heap.get?_push_of_some _ e)
    generalize hoa : ({ cls := .type "generator", data := .fields #[.int s4.gens.size 0, .str "<genexpr>" (s4.toks + 1), .str (X.env.qual ++ "<genexpr>") (s4.toks + 1 + 1)] } : Obj) = oa
    generalize hcenv : genEnv scope (cloFrom X.env.cells scope.names []) s4.heap.objs.size code builtinsNs X.env = cenv
    generalize hs5 : ({ s4 with gens := s4.gens.push (.fresh (.compStart (.GeneratorExp elt [⟨tg, iter, ifs, 0⟩] scope gpos) 0 (.ref it) .none cenv)), toks := s4.toks + 1 + 1 + 1, heap := h'.push oa } : Shared) = s5
    have h5h : s5.heap = h'.push oa := by rw [← hs5]
    have kp5 : ∀ b o, s4.heap.get? b = some o → s5.heap.get? b = some o := fun b o e => by rw [h5h]; exact Heap.get?_push_of_some _ (keep' b o e)
    have ha5 : s5.heap.get? h'.objs.size = some oa := by rw [h5h]; exact Heap.get?_push_size _ (by rw [← hoa]; rfl)
    have g5 : s5.gens[s4.gens.size]? = some (.fresh (.compStart (.GeneratorExp elt [⟨tg, iter, ifs, 0⟩] scope gpos) 0 (.ref it) .none cenv)) := by rw [← hs5]; exact Array.getElem?_push_size ..
    have b5 : AllBare s5.gens := by rw [← hs5]; exact I4.bare.push rfl
    have isg : ∀ h : Heap, h.get? h'.objs.size = some oa → h.IsGen h'.objs.size s4.gens.size := fun h e => by
      rw [← hoa] at e
      exact ⟨_, _, _, e, rfl, rfl, rfl⟩
    refine Calls.spliced_nil ?_
    refine call_function_tree F.kind_all F.plain_all F.entry_all (F.args_all1 _) ?_
    unfold Builtin.«all»
    refine wpAny_bind (m := oneArg "all" _) (wpAny_pure ?_)
    refine wpAny_bind (wpAny_pyIter_gen (isg _ ha5) ?_)
    have back : ∀ s1 s' σ2 H', Inv (gen X s4 H4 cenv fp (X.A.in1.in1.deeper cenv)) [(h'.objs.size, oa)] σ2 H' s1 → Woken s1 s' → Inv X pins σ H' s' := fun s1 s' σ2 H' I1 wk =>
      inv_woken (I4.call' (ch := fp) I1.os I1.base I1.hok I1.bare fun b hb => ⟨(f4 b hb).1.2.2.2.1, (f4 b hb).1.2.1, (f4 b hb).1.2.2.2.2.1, (f4 b hb).1.2.2.2.2.2⟩) wk
    have frm : (X.A.in1.in1.deeper cenv).frames = some (cenv :: X.stack) := Around.frames_deeper I4.ok.frames
    have hrA : Room k (X.A.in1.in1.deeper cenv) := ((((hr.mono (by omega : k + 3 ≤ k + 4)).in1).in1).deeper cenv)
    have I5 : Inv (gen X s4 H4 cenv fp (X.A.in1.in1.deeper cenv)) [] (wipe σ (own.map (·.2))) H4 (s5.setGen s4.gens.size .running) :=
      gen_start (s5 := s5.setGen s4.gens.size .running) I4 ok hN S.nc f4 hcenv.symm frm hrA.hd (by rw [← hs5]; rfl) (allBare_setGen b5 rfl) kp5 (show Heap.Ns s5.heap s4.heap.objs.size _ by rw [h5h]; exact hn'.push _)
    have I6 : Inv (gen X s4 H4 cenv fp (X.A.in1.in1.deeper cenv)) [(h'.objs.size, oa)] (wipe σ (own.map (·.2))) H4 (s5.setGen s4.gens.size .running) := I5.pins_of fun p hp => by
      have ep : p = (h'.objs.size, oa) := List.mem_singleton.mp hp
      subst ep
      have hge : s4.heap.objs.size ≤ h'.objs.size := by omega
      refine ⟨ha5, I4.hok.fresh hge, ?_, fun z => ?_, fun v z => ?_⟩
      · show h'.objs.size ≠ cenv.locals
        rw [← hcenv]
        show h'.objs.size ≠ s4.heap.objs.size
        omega
      · rcases List.mem_cons.mp (I4.stkSub _ z) with z | z
        · have hlt : h'.objs.size < s4.heap.objs.size := by
            rw [show h'.objs.size = X.env.locals from z]
            exact I4.lt
          exact absurd (Nat.lt_of_lt_of_le hlt hge) (Nat.lt_irrefl _)
        · exact I4.nofs hge z
      · rw [← hoa] at z
        cases z
    have hnf : ∀ b ∈ fp, H4 b = none := fun b hb => (f4 b hb).1.1
    have seg := seg_allStart (iter := iter) (scope := scope) (pos := gpos) (A := X.A.in1.in1) (p0 := [(h'.objs.size, oa)]) hc (by rw [← hcenv]; exact S.co) T (fun p hp z => by
        rw [List.mem_singleton.mp hp] at z
        have := (f4 _ z).2
        have hge : s4.heap.objs.size ≤ h'.objs.size := by omega
        exact absurd (Nat.lt_of_lt_of_le this hge) (Nat.lt_irrefl _))
      (by rw [← hcenv]; exact hg s4 H4 _ _ code fp _ (by rw [hcenv]; exact hrA)) (by rw [← hcenv]; exact ht s4 H4 _ _ code fp _ (by rw [hcenv]; exact hrA)) (by rw [← hcenv]; exact he s4 H4 _ _ code fp _ (by rw [hcenv]; exact hrA))
      turn m0 (m0 + 1) (s5.setGen s4.gens.size .running) (s5.setGen s4.gens.size .running) H4 (by omega) I6 (T.keep _ _ _ st4 fun b _ o e => kp5 b o e) hnf w0
    refine wpAny_pure ⟨plainId_quiet F.plain_all_loop _, ?_⟩
    refine all_loop (G := gen X s4 H4 cenv fp (X.A.in1.in1.deeper cenv)) (p0 := [(h'.objs.size, oa)]) (A := X.A) (Qt := fun H => Q (.bl true) H) (Qf := fun H => Q (.bl false) H) hr.hd (by have := hr.dp; omega) (List.mem_singleton.mpr rfl) isg
      (fun s1 s' σ2 H' I1 hq wk => ⟨.bl true, H', back s1 s' σ2 H' I1 wk, rfl, hq⟩) (fun s1 s' σ2 H' I1 hq wk => ⟨.bl false, H', back s1 s' σ2 H' I1 wk, rfl, hq⟩) (m0 + 1) s5 (isg _ ha5) (I4.nolimit.keeps kp5) ⟨_, g5, rfl, seg⟩
  cases hf : codeAmong gpos ps.toList with
  | none =>
    refine wpAny_genexprCodeX hcode (cd.code hPs ht0) (cd.tab hPs) hf fun c' h' tk hx hge hlt hco' _ htab' _ => ?_
    obtain ⟨o1, vs, f1, tf, fl, tg', inF, tx, tt', op, _, _, _, _, _, _, _, _, _, htr, _⟩ := hco'
    exact cont _ h' tk _ hx (Nat.le_trans hge (Nat.le_of_lt hlt)) htab'.2 ⟨_, rfl⟩ htr
  | some cv =>
    refine wpAny_genexprCode_hit hcode (cd.code hPs ht0) hf ?_
    exact cont cv s2.heap s2.toks ps (Heap.ExtBut.refl _ _) (Nat.le_refl _) hPs ⟨#[], by simp⟩ ht0
end
/-! ### a def with its code object; tables -/
theorem okC {P : Program} {w : World} {K : PySem.W.Frag} {mg : Str → Option Value} {base : Heap} {x qual : Str} {params : Arguments} {body : List Stmt} {scope : Scope} {f : Addr} {fd : FuncData} {N ps : List Str} {k : Nat} {sp : Sp} (F : FunD K x qual params body scope [] [] f fd) (S : FnScope N ps scope) (len : ∀ vs H Q E, sp vs H Q E → vs.length = ps.length)
    (hbody : ∀ (A : Around) (outer : List Env) (s : Shared) (H : Hp) (vs : List V) (Q : VK) (E : XK), Room k (A.deeper (envOfC qual scope s.heap.objs.size f fd.code)) → sp vs H Q E →
      ∃ t, PSs (cxOf CX0 P w K mg base N qual scope f fd.code A outer s H E) body t ∧ t { nx := fun _ H' => Q .non H', rt := Q } (start N vs) H) : FnOk P w K mg base CX0 (k + 1) f fd ps sp := by
  obtain ⟨oc, od, dV, kV, doc, pm, an, cdv, ct, osl, rfl, lk, hcd, _, _⟩ := F.ex
  exact fn_of lk hcd S len fun A outer s H vs Q E hr hsp => hbody A outer s H vs Q E hr hsp
theorem tab_get {P b : Addr} {H H' : Hp} {o : HO} (t : Tabbed P H H') (h : H b = some o) (n : ∀ ps, o ≠ .tbl ps) (hP : TabG H P) : H' b = some o := by
  obtain ⟨ps, hp, _⟩ := hP
  rw [t.2 b (ne_of h hp (n ps))]
  exact h
theorem tab_back {P b : Addr} {H H' : Hp} (t : Tabbed P H H') (h : H' b = none) : H b = none := by
  by_cases z : b = P
  · obtain ⟨ps, hp, _⟩ := t.1
    rw [z, hp] at h
    cases h
  · rw [← t.2 b z]
    exact h
theorem tg_same {P : Addr} {H H' : Hp} (h : TabG H P) (e : Same H H') : TabG H' P := by
  obtain ⟨ps, hp, t⟩ := h
  exact ⟨ps, e _ _ hp, t⟩
theorem tg_dr {s P : Addr} {H H' : Hp} (h : TabG H P) (d : Dr s H H') : TabG H' P := by
  obtain ⟨ps, hp, t⟩ := h
  obtain ⟨a, b, c, hs⟩ := d.src0
  exact ⟨ps, d.keep _ _ (ne_of hp hs (by intro z; cases z)) hp, t⟩
theorem tg_tab {P P' : Addr} {H H' : Hp} (h : TabG H P) (t : Tabbed P' H H') : TabG H' P := by
  by_cases z : P = P'
  · rw [z]
    exact t.1
  · obtain ⟨ps, hp, tr⟩ := h
    exact ⟨ps, by rw [t.2 P z]; exact hp, tr⟩
theorem tab_trans {P : Addr} {H H1 H2 : Hp} (a : Tabbed P H H1) (b : Tabbed P H1 H2) : Tabbed P H H2 := ⟨b.1, fun c hc => (b.2 c hc).trans (a.2 c hc)⟩
/-- an element that changes nothing: its truth at each place -/
theorem all_pure {J : It} {g : TG} {te : TE} {vs : List Nat} {σw : L2.St} {H2 : Hp} {Qt Qf : Hp → Prop} (n : Nat) (pr : Nat → Bool) (hgo : ∀ i, i < n → J.go i H2) (hstop : J.stop n H2)
    (hs : ∀ i x H', i < n → J.yld i H2 x H' → ∀ (Q' : VK) (B : Hp → Prop), Q' (.bl (pr i)) H2 → g x σw H' fun σ2 H3 => wipe σ2 vs = σw ∧ tYes σ2 H3 fun b H4 => if b = true then te σ2 H4 Q' else B H4)
    (hT : (∀ i, i < n → pr i = true) → Qt H2) (hF : ∀ i, i < n → pr i = false → Qf H2) : ∃ W : Nat → Nat → Hp → Prop, (∃ m, W 0 m H2) ∧ AllTurns J g tYes te vs σw W Qt Qf := by
  refine ⟨fun i m H => m = n - i ∧ i ≤ n ∧ H2 = H ∧ ∀ j, j < i → pr j = true, ⟨n, rfl, Nat.zero_le _, rfl, fun j h => absurd h (Nat.not_lt_zero _)⟩, ?_⟩
  rintro i m H ⟨rfl, hi, rfl, hp⟩
  by_cases h : i < n
  · refine .inr ⟨hgo i h, fun H' => H2 = H' ∧ pr i = true, fun H' hN => ⟨n - (i + 1), by omega, rfl, h, hN.1, fun j hj => ?_⟩, fun x H' hy => hs i x H' h hy _ _ ⟨pr i, rfl, ?_⟩⟩
    · rcases (show j < i ∨ j = i by omega) with z | z
      · exact hp j z
      · rw [z]
        exact hN.2
    · cases hb : pr i with
      | true => exact ⟨rfl, rfl⟩
      | false => exact hF i h hb
  · have e : i = n := by omega
    subst e
    exact .inl ⟨hstop, hT hp⟩
theorem code_at {K : PySem.W.Frag} {x qual : Str} {params : Arguments} {body : List Stmt} {scope : Scope} {p : Str × Option Str} {fd : FuncData} (F : FunD K x qual params body scope [] [] (He.fAd K p) fd) : fd.code = .ref (He.codeOf K p) := by
  obtain ⟨oc, od, dV, kV, doc, pm, an, cdv, ct, osl, rfl, lk, hcd, _, _⟩ := F.ex
  obtain ⟨c, rfl⟩ := He.codeIn_ref hcd
  rw [He.codeOf_eq lk rfl]
/-! ### list(text) -/
def signsV (z : Str) : List V := z.cps.toList.map fun c => V.str ⟨#[c]⟩
def rListStr : List V → Hp → VK → Prop := fun xs H Q => ∃ z : Str, xs = [.str z] ∧ z.length ≤ sizeLine ∧ ∀ l, H l = none → Q (.ref l) (upd H l (.lst (signsV z)))
theorem call_listStr {X : Cx} (hc : X.calm = true) : CallR X (.type "list") rListStr := by
  intro pins s σ H xs us Q I r h
  obtain ⟨z, rfl, hz, q⟩ := h
  obtain ⟨u, rfl, t, rfl⟩ := vals1 r
  refine call_list_str (I.ok.hd hc) z t (fun h' tk acc' c' hk hS hacc => ?_) (hn := hz)
  refine ⟨.ref s.heap.objs.size, upd H s.heap.objs.size (.lst (signsV z)), I.laid hk (Nat.le_refl _) (show ObjOk X.prog X.w _ _ _ (.lst (signsV z)) from ⟨?_, acc'.toList, c', ?_, ?_⟩), rfl, q _ (I.hok.fresh (Nat.le_refl _))⟩
  · unfold signsV
    rw [List.length_map]
    exact hz
  · have el : acc'.toList.length = acc'.size := by simp
    refine vals_of_at (by unfold signsV; rw [List.length_map, el, hacc.1]; simp) fun j x w h1 h2 => ?_
    obtain ⟨cc, u, hcc, rfl⟩ := hacc.2 j w (by rw [← Array.getElem?_toList]; exact h2)
    unfold signsV at h1
    rw [List.getElem?_map, Array.getElem?_toList, hcc] at h1
    cases h1
    exact ⟨u, rfl⟩
  · rw [Array.toArray_toList]
    exact hS
theorem z_listStr {H : Hp} {Q : VK} {z : Str} (hz : z.length ≤ 1000) (q : ∀ p H', H p = none → Same H H' → H' p = some (.lst (signsV z)) → Q (.ref p) H') : rListStr [.str z] H Q :=
  ⟨z, rfl, Nat.le_of_lt (small1000 hz), fun p hp => q p _ hp (fun b u e => by rw [upd_ne (ne_of_none e hp)]; exact e) upd_same⟩
/-! ### texts -/
def rLeS : R2 := fun x y H Q => ∃ i j, x = .str i ∧ y = .str j ∧ Q (.bl (!decide (j.cps.toList < i.cps.toList))) H
theorem op_leS {X : Cx} : OpR X (compareOp .LtE) rLeS := op_le_str
theorem lt1 (a b : Nat) : decide (([a] : List Nat) < [b]) = decide (a < b) := decide_eq_decide.mpr (by
  constructor
  · intro h
    cases h with
    | rel h => exact h
    | cons h => cases h
  · intro h
    exact List.Lex.rel h)
theorem z_leS {H : Hp} {Q : VK} {c d : Nat} (q : Q (.bl (decide (c ≤ d))) H) : rLeS (.str ⟨#[c]⟩) (.str ⟨#[d]⟩) H Q := ⟨_, _, rfl, rfl, by
  have e : (!decide (([d] : List Nat) < [c])) = decide (c ≤ d) := by
    rw [lt1]
    by_cases h : c ≤ d
    · rw [decide_eq_true h, decide_eq_false (by omega)]
      rfl
    · rw [decide_eq_false h, decide_eq_true (by omega)]
      rfl
  show Q (.bl (!decide (([d] : List Nat) < [c]))) H
  rw [e]
  exact q⟩
theorem z_lenS {K : PySem.W.Frag} {H : Hp} {Q : VK} {z : Str} (hz : z.length ≤ 1000) (q : Q (.int z.length) H) : rLenK K [.str z] H Q := ⟨_, z.length, rfl, ⟨Nat.le_of_lt (small1000 hz), rfl⟩, q⟩
def smB (c : Nat) : Bool := decide (97 ≤ c) && decide (c ≤ 122)
def nmB (z : Str) : Bool := decide (1 ≤ z.length) && (decide (z.length ≤ 8) && z.cps.toList.all smB)
/-- what is no whole number -/
inductive NIv (H : Hp) : V → Prop
  | bl (b : Bool) : NIv H (.bl b)
  | non : NIv H .non
  | str (z : Str) : NIv H (.str z)
  | lst {l : Addr} {xs : List V} : H l = some (.lst xs) → NIv H (.ref l)
  | tup {l : Addr} {xs : List V} : H l = some (.tup xs) → NIv H (.ref l)
  | dct {l : Addr} {kvs : List (Key × V)} : H l = some (.dK kvs) → NIv H (.ref l)
theorem NIv.same {H H' : Hp} {v : V} (h : NIv H v) (e : Same H H') : NIv H' v := by
  cases h with
  | bl b => exact .bl b
  | non => exact .non
  | str z => exact .str z
  | lst h => exact .lst (e _ _ h)
  | tup h => exact .tup (e _ _ h)
  | dct h => exact .dct (e _ _ h)
theorem NIv.tab {P : Addr} {H H' : Hp} {v : V} (h : NIv H v) (e : Tabbed P H H') (hP : TabG H P) : NIv H' v := by
  cases h with
  | bl b => exact .bl b
  | non => exact .non
  | str z => exact .str z
  | lst h => exact .lst (tab_get e h (fun _ z => by cases z) hP)
  | tup h => exact .tup (tab_get e h (fun _ z => by cases z) hP)
  | dct h => exact .dct (tab_get e h (fun _ z => by cases z) hP)
/-- the name of a thing's type, for what is no whole number -/
theorem NIv.ty {K : PySem.W.Frag} {H : Hp} {v : V} (h : NIv H v) : ∃ (n : String) (a b : Bool), TyX K H v (.type n) ∧ kitB n "int" = some a ∧ kitB n "bool" = some b ∧ (a && !b) = false := by
  cases h with
  | bl b => exact ⟨"bool", true, true, .base (.bl b), by decide +kernel, by decide +kernel, rfl⟩
  | non => exact ⟨"NoneType", false, false, .base .non, by decide +kernel, by decide +kernel, rfl⟩
  | str z => exact ⟨"str", false, false, .base (.str z), by decide +kernel, by decide +kernel, rfl⟩
  | lst h => exact ⟨"list", false, false, .base (.lst h), by decide +kernel, by decide +kernel, rfl⟩
  | tup h => exact ⟨"tuple", false, false, .base (.tup h), by decide +kernel, by decide +kernel, rfl⟩
  | dct h => exact ⟨"dict", false, false, .base (.dK h), by decide +kernel, by decide +kernel, rfl⟩
def inFar (n : Int) : Bool := decide (-1000000000000 ≤ n) && decide (n ≤ 1000000000000)
/-- a number within the bounds, or not -/
def OwnV (H : Hp) (x : V) (k : Bool) : Prop := (∃ n, x = .int n ∧ k = inFar n) ∨ (k = false ∧ NIv H x)
theorem OwnV.tab {P : Addr} {H H' : Hp} {v : V} {k : Bool} (h : OwnV H v k) (e : Tabbed P H H') (hP : TabG H P) : OwnV H' v k := by
  rcases h with h | ⟨h1, h2⟩
  · exact .inl h
  · exact .inr ⟨h1, h2.tab e hP⟩
theorem joinS_len : ∀ ys : List Str, (∀ y ∈ ys, y.length ≤ 1) → (Str.join "" ys).length ≤ ys.length
  | [], _ => Nat.le_refl _
  | [y], h => h y (by simp)
  | x :: z :: r, h => by
    have ih := joinS_len (z :: r) fun y hy => h y (List.mem_cons_of_mem _ hy)
    show (x ++ "" ++ Str.join "" (z :: r)).length ≤ _
    rw [Str.length_append, Str.length_append]
    have h1 := h x (by simp)
    have h0 : ("" : Str).length = 0 := rfl
    simp only [List.length_cons] at ih ⊢
    omega
theorem join_len {ys : List Str} (h : ∀ y ∈ ys, y.length ≤ 1) : (Txt.join "" ys).length ≤ ys.length := by
  rw [TL.join_eq]
  exact joinS_len ys h
theorem cutS_len (z : Str) (lo hi : Option Int) : (cutS z lo hi).length ≤ z.length := by
  unfold cutS
  show (List.toArray _).size ≤ _
  rw [List.size_toArray, List.length_take, List.length_drop]
  have : z.cps.toList.length = z.length := by simp [Str.length]
  omega
theorem sum_ones : ∀ {ys : List Str}, (∀ y ∈ ys, y.length ≤ 1) → (ys.map (·.length)).sum ≤ ys.length
  | [], _ => Nat.le_refl _
  | y :: r, h => by
    have ih := sum_ones (ys := r) fun z hz => h z (List.mem_cons_of_mem _ hz)
    have h1 := h y (by simp)
    simp only [List.map_cons, List.sum_cons, List.length_cons]
    omega
theorem z_cutS {H : Hp} {Q : VK} {z : Str} {lo hi : Option Int} (hz : z.length ≤ 1000) (q : Q (.str (cutS z lo hi)) H) : rSlS (.str z) lo hi H Q := ⟨z, rfl, Nat.le_of_lt (small1000 hz), q⟩
/-! ### lists of ints as data -/
theorem dpInts {K : PySem.W.Frag} {H : Hp} : ∀ ns : List Int, DpAll K H (ns.map V.int) (ns.map PyData.int)
  | [] => .nil
  | n :: r => .cons (.int n) (dpInts r)
theorem eqv_nil (ns : List Int) : PyData.eqv (.list (ns.map PyData.int)) (.list []) = ns.isEmpty := by
  cases ns with
  | nil => rfl
  | cons n r => simp [PyData.eqv, PyData.eqvAll]
theorem sh_ints {ns : List Int} (h : ns.length ≤ 4) : SeqAt.shaped (.list (ns.map PyData.int)) = true := by
  rcases ns with _ | ⟨a, _ | ⟨b, _ | ⟨c, _ | ⟨d, _ | ⟨e, r⟩⟩⟩⟩⟩
  · rfl
  · rfl
  · rfl
  · rfl
  · rfl
  · simp at h
theorem NIv.dr {s : Addr} {H H' : Hp} {v : V} (h : NIv H v) (d : Dr s H H') (n : v ≠ .ref s) : NIv H' v := by
  cases h with
  | bl b => exact .bl b
  | non => exact .non
  | str z => exact .str z
  | lst h => exact .lst (d.keep _ _ (fun z => n (by rw [z])) h)
  | tup h => exact .tup (d.keep _ _ (fun z => n (by rw [z])) h)
  | dct h => exact .dct (d.keep _ _ (fun z => n (by rw [z])) h)
theorem z_tupleL {K : PySem.W.Frag} {H : Hp} {Q : VK} {p : Addr} {xs : List V} (h : H p = some (.lst xs)) (q : ∀ p' H', H p' = none → Same H H' → H' p' = some (.tup xs) → Q (.ref p') H') : rTupleK K [.ref p] H Q :=
  ⟨p, xs, rfl, .inl ⟨SqL.of h, fun p' hp => q p' _ hp (fun b u e => by rw [upd_ne (ne_of_none e hp)]; exact e) upd_same⟩⟩
/-- everything but tables is kept -/
def Kp (H H' : Hp) : Prop := ∀ b o, (∀ ps, o ≠ .tbl ps) → H b = some o → H' b = some o
theorem Kp.of_same {H H' : Hp} (e : Same H H') : Kp H H' := fun b o _ h => e b o h
theorem Kp.of_tab {P : Addr} {H H' : Hp} (e : Tabbed P H H') (hP : TabG H P) : Kp H H' := fun b o n h => tab_get e h n hP
theorem Kp.trans {H H1 H2 : Hp} (a : Kp H H1) (b : Kp H1 H2) : Kp H H2 := fun c o n h => b c o n (a c o n h)
theorem Kp.refl (H : Hp) : Kp H H := fun _ _ _ h => h
theorem Kp.tup {H H' : Hp} {b : Addr} {xs : List V} (a : Kp H H') (h : H b = some (.tup xs)) : H' b = some (.tup xs) := a _ _ (fun _ z => by cases z) h
theorem Kp.lst {H H' : Hp} {b : Addr} {xs : List V} (a : Kp H H') (h : H b = some (.lst xs)) : H' b = some (.lst xs) := a _ _ (fun _ z => by cases z) h
theorem Kp.dct {H H' : Hp} {b : Addr} {xs : List (Key × V)} (a : Kp H H') (h : H b = some (.dK xs)) : H' b = some (.dK xs) := a _ _ (fun _ z => by cases z) h
theorem Src.kp {H H' : Hp} {s : Addr} (h : Src H s) (a : Kp H H') : Src H' s := by
  obtain ⟨x, y, z, h⟩ := h
  exact ⟨x, y, z, a.lst h⟩
theorem NIv.kp {H H' : Hp} {v : V} (h : NIv H v) (a : Kp H H') : NIv H' v := by
  cases h with
  | bl b => exact .bl b
  | non => exact .non
  | str z => exact .str z
  | lst h => exact .lst (a.lst h)
  | tup h => exact .tup (a.tup h)
  | dct h => exact .dct (a.dct h)
theorem OwnV.kp {H H' : Hp} {v : V} {k : Bool} (h : OwnV H v k) (a : Kp H H') : OwnV H' v k := by
  rcases h with h | ⟨h1, h2⟩
  · exact .inl h
  · exact .inr ⟨h1, h2.kp a⟩
theorem z_disp1 {σ : L2.St} {H : Hp} {Q : VK} {ta tb : TE} {k : Key} {v : V} (ha : ∀ (H' : Hp) (Q' : VK), Q' (kV k) H' → ta σ H' Q') (hb : ∀ (H' : Hp) (Q' : VK), Q' v H' → tb σ H' Q')
    (q : ∀ p H' kvs, H p = none → Same H H' → H' p = some (.dK kvs) → Q (.ref p) H') : tDisp [(ta, tb)] σ H Q := fun p hp => by
  refine ha _ _ (hb _ _ ⟨upd_same, [(k, v)], rfl, by simp, q p _ _ hp (fun b u e => ?_) upd_same⟩)
  have n := ne_of_none e hp
  rw [upd_ne n, upd_ne n]
  exact e
end Zk
set_option Elab.async false
set_option linter.all false
set_option maxRecDepth 100000
set_option maxHeartbeats 2000000
/-! tuple(.. for .. in ..): the list that gathers the items is tracked, as in a list comprehension. -/
namespace Zk
open PySem PySem.Spec PyProof.Rows L2 GenW GxR
section
variable {X : Cx} {pins : List (Addr × Obj)} {σ : L2.St} {H : Hp} {s : Shared}
/-- an item was put behind the list at S -/
def Pushed (G : Cx) (S : Addr) (xs : List V) (y : V) (s s'' : Shared) : Prop := ∀ pins σ H, Inv G pins σ H s → H S = some (.lst xs) → Inv G pins σ (upd H S (.lst (xs ++ [y]))) s''
def YTup (G : Cx) (p0 : List (Addr × Obj)) (S : Addr) : Protocol := fun _ _ v s kap =>
  ∃ (σ2 : L2.St) (H : Hp) (xs : List V) (y : V), RelV y v ∧ Inv G p0 σ2 H s ∧ H S = some (.lst xs) ∧ xs.length < sizeLine ∧ ∀ s'', Pushed G S xs y s s'' → kap (.send .none) s''
def FTup (G : Cx) (p0 : List (Addr × Obj)) (Qe : Hp → Prop) : Nat → Shared → Shared → Prop := fun _ _ s => ∃ (σ2 : L2.St) (H : Hp), Inv G p0 σ2 H s ∧ Qe H
def RTup (G : Cx) (p0 : List (Addr × Obj)) (Qe : Hp → Prop) : GenEnd := fun n s₀ r s₁ => ((r = .ok (.ret .none) ∨ r = .ok .next) ∧ FTup G p0 Qe n s₀ s₁) ∨ ∃ e, r = .error e ∧ (fun (_ : Value) (_ : Shared) => False) e s₁
/-- what the loop's turns ask -/
def TupTurns (J : It) (g : TG) (tt : TT) (te : TE) (vs : List Nat) (σw : L2.St) (S : Addr) (W : Nat → Nat → Hp → Prop) (Qe : Hp → Prop) : Prop :=
  ∀ i m H, W i m H → (J.stop i H ∧ Qe H) ∨ (J.go i H ∧ ∃ Nx : Hp → Prop, (∀ H', Nx H' → ∃ m', m' < m ∧ W (i + 1) m' H') ∧ ∀ x H', J.yld i H x H' → g x σw H' fun σ2 H2 => wipe σ2 vs = σw ∧ tt σ2 H2 fun b H3 =>
    if b = true then te σ2 H3 fun y H4 => ∃ xs, H4 S = some (.lst xs) ∧ xs.length < sizeLine ∧ Nx (upd H4 S (.lst (xs ++ [y]))) else Nx H3)
theorem seg_tup {elt tg iter : Expr} {ifs : List Expr} {scope : Scope} {pos : Pos} {it S : Addr} {fp : List Addr} {tn : Nat → Heap → Prop} {J : It} {W : Nat → Nat → Hp → Prop} {σw : L2.St} {vs : List Nat} {A : Around} {cenv : Env} {s3 : Shared} {H3 : Hp} {p0 : List (Addr × Obj)} {Qe : Hp → Prop} {g : TG} {tt : TT} {te : TE}
    (hc : X.calm = true) (hco : cenv.scope.isCoroutine = false) (T : Turn X.prog X.w X.K tg J fp it tn) (hp0 : ∀ p ∈ p0, p.1 ∉ fp)
    (pg : PG (gen X s3 H3 cenv fp (A.deeper cenv)) tg g) (pt : PTs (gen X s3 H3 cenv fp (A.deeper cenv)) ifs tt) (pe : PE (gen X s3 H3 cenv fp (A.deeper cenv)) elt te) (turn : TupTurns J g tt te vs σw S W Qe) :
    ∀ (m i n : Nat) (s₀ s : Shared) (H : Hp), m < n → Inv (gen X s3 H3 cenv fp (A.deeper cenv)) p0 σw H s → tn i s.heap → (∀ b ∈ fp, H b = none) → W i m H →
      Seg (model X.prog X.w) A (RTup (gen X s3 H3 cenv fp (A.deeper cenv)) p0 Qe) (YTup (gen X s3 H3 cenv fp (A.deeper cenv)) p0 S) n s₀ (.compLoop (.GeneratorExp elt [⟨tg, iter, ifs, 0⟩] scope pos) 0 (.ref it) .none cenv)
        ((model X.prog X.w).den (.compLoop (.GeneratorExp elt [⟨tg, iter, ifs, 0⟩] scope pos) 0 (.ref it) .none cenv)) [] s := by
  have ov : A.over (.compLoop (.GeneratorExp elt [⟨tg, iter, ifs, 0⟩] scope pos) 0 (.ref it) .none cenv) [] = A.deeper cenv := over_comp ⟨_, _, _, _, rfl⟩
  have stat : ∀ {σ' : L2.St} {H' : Hp} {s' : Shared}, Inv (gen X s3 H3 cenv fp (A.deeper cenv)) p0 σ' H' s' → (∀ b ∈ fp, H' b = none) → ∀ b ∈ fp, FpOk (gen X s3 H3 cenv fp (A.deeper cenv)) p0 H' b := fun {σ' H' s'} I' hn b hb =>
    ⟨hn b hb, (I'.ok.exf b hb).1, I'.ok.exfs b hb, .inl hb, fun x c e => (I'.ok.exf b hb).2 x c e, fun p hp z => by
      rcases List.mem_append.mp hp with hp | hp
      · cases hp
      · exact hp0 p hp (z ▸ hb)⟩
  intro m
  induction m using Nat.strongRecOn with
  | ind m ih =>
    intro i n s₀ s H hmn I st nf w
    obtain ⟨n, rfl⟩ : ∃ k, n = k + 1 := ⟨n - 1, by omega⟩
    show Seg _ A _ _ _ s₀ _ ((compTurn (.GeneratorExp elt [⟨tg, iter, ifs, 0⟩] scope pos) 0 (.ref it) .none cenv).onRaise (leaving cenv)) [] s
    rw [compTurn_gen, Sem.onRaise_eq_wrap]
    refine seg_bind_wrap (wpAny_standAt ?_)
    rcases turn i m H w with ⟨stop, qq⟩ | ⟨go, Nx, hNx, step⟩
    · have td := T.done (gen X s3 H3 cenv fp (A.deeper cenv)) rfl rfl rfl hc i p0 s _ H (fun _ _ => False) I (stat I nf) st stop
      refine seg_bind_wrap ?_
      rw [ov]
      refine thnF td fun r s6 ⟨hr, I6⟩ => ?_
      subst hr
      exact seg_end (.ok .next) (.inl ⟨.inr rfl, _, _, I6, qq⟩)
    · have ti := T.item (gen X s3 H3 cenv fp (A.deeper cenv)) rfl rfl rfl hc i p0 s _ H (fun _ _ => False) I (stat I nf) st go
      refine seg_bind_wrap ?_
      rw [ov]
      refine thnF ti fun r s6 ⟨u, hr, h6⟩ => ?_
      subst hr
      refine seg_bind_wrap ?_
      rw [ov]
      refine thnF h6 fun _ s7 ⟨x, H7, I7, r7, y7, st7, n7⟩ => ?_
      have I7' := I7.pinned (stat I7 n7) (T.obj _ _ st7)
      refine seg_bind_wrap ?_
      rw [ov]
      refine thnF (pg.run _ s7 _ H7 x u _ I7' r7 (step x H7 y7)) fun _ s8 ⟨σ8, H8, I8, hw8, q8⟩ => ?_
      refine seg_bind_wrap ?_
      rw [ov]
      refine thnF (pt.run _ s8 σ8 H8 _ I8 q8) fun b s9 ⟨H9, I9, q9⟩ => ?_
      have fin : ∀ {s' : Shared} {H' : Hp} {n' : Nat} {s0' : Shared}, Inv (gen X s3 H3 cenv fp (A.deeper cenv)) (p0 ++ pinsAt fp s7.heap) σ8 H' s' → Nx H' → m ≤ n' →
          Seg (model X.prog X.w) A (RTup (gen X s3 H3 cenv fp (A.deeper cenv)) p0 Qe) (YTup (gen X s3 H3 cenv fp (A.deeper cenv)) p0 S) n' s0' (.compLoop (.GeneratorExp elt [⟨tg, iter, ifs, 0⟩] scope pos) 0 (.ref it) .none cenv)
            ((model X.prog X.w).den (.compLoop (.GeneratorExp elt [⟨tg, iter, ifs, 0⟩] scope pos) 0 (.ref it) .none cenv)) [] s' := fun {s' H' n' s0'} I' nx hn' => by
        obtain ⟨m', hm, w'⟩ := hNx H' nx
        have pin' : ∀ b ∈ fp, ∀ o, s7.heap.get? b = some o → s'.heap.get? b = some o ∧ H' b = none := fun b hb o e =>
          let z := I'.pin (b, o) (List.mem_append_right _ (List.mem_append_right _ (mem_pinsAt hb e)))
          ⟨z.1, z.2.1⟩
        have hl : σw.length = σ8.length := by rw [← hw8, wipe_length]
        refine ih m' hm (i + 1) n' s0' s' H' (by omega) ((I'.unpinned (pins := p0)).weak hl (fun j v e => ?_)) (T.keep _ _ _ st7 fun b hb o e => (pin' b hb o e).1) (fun b hb => ?_) w'
        · rw [← hw8] at e
          exact (wipe_some e).1
        · obtain ⟨o, e, _⟩ := T.obj _ _ st7 b hb
          exact (pin' b hb o e).2
      cases b with
      | false =>
        simp only [Bool.false_eq_true, if_false] at q9 ⊢
        exact seg_again rfl (fin I9 q9 (by omega))
      | true =>
        simp only [if_true] at q9 ⊢
        have hy : ∀ v, yieldOut cenv v = yieldValue v := fun v => by simp only [yieldOut, hco, Bool.false_eq_true, if_false]
        simp only [hy]
        rw [Sem.bind_eq_wrap', Sem.bind_eq_wrap', Sem.wrap_wrap, Sem.wrap_wrap]
        refine seg_wrap ?_
        rw [ov]
        refine thnF (pe.run _ s9 σ8 H9 _ I9 q9) fun z s10 ⟨yv, H10, I10, r10, xs, hxs, hlt, nx⟩ => ?_
        refine seg_at (seg_yield rfl rfl rfl ⟨σ8, H10, xs, yv, r10, I10.unpinned, hxs, hlt, fun s'' wk => ?_⟩)
        exact seg_again rfl (fin (wk _ _ _ I10 hxs) nx (by omega))
theorem seg_tupStart {elt tg iter : Expr} {ifs : List Expr} {scope : Scope} {pos : Pos} {it S : Addr} {fp : List Addr} {tn : Nat → Heap → Prop} {J : It} {W : Nat → Nat → Hp → Prop} {σw : L2.St} {vs : List Nat} {A : Around} {cenv : Env} {s3 : Shared} {H3 : Hp} {p0 : List (Addr × Obj)} {Qe : Hp → Prop} {g : TG} {tt : TT} {te : TE}
    (hc : X.calm = true) (hco : cenv.scope.isCoroutine = false) (T : Turn X.prog X.w X.K tg J fp it tn) (hp0 : ∀ p ∈ p0, p.1 ∉ fp)
    (pg : PG (gen X s3 H3 cenv fp (A.deeper cenv)) tg g) (pt : PTs (gen X s3 H3 cenv fp (A.deeper cenv)) ifs tt) (pe : PE (gen X s3 H3 cenv fp (A.deeper cenv)) elt te) (turn : TupTurns J g tt te vs σw S W Qe)
    (m n : Nat) (s₀ s : Shared) (H : Hp) (hmn : m < n) (I : Inv (gen X s3 H3 cenv fp (A.deeper cenv)) p0 σw H s) (st : tn 0 s.heap) (nf : ∀ b ∈ fp, H b = none) (w : W 0 m H) :
      Seg (model X.prog X.w) A (RTup (gen X s3 H3 cenv fp (A.deeper cenv)) p0 Qe) (YTup (gen X s3 H3 cenv fp (A.deeper cenv)) p0 S) n s₀ (.compStart (.GeneratorExp elt [⟨tg, iter, ifs, 0⟩] scope pos) 0 (.ref it) .none cenv)
        ((model X.prog X.w).den (.compStart (.GeneratorExp elt [⟨tg, iter, ifs, 0⟩] scope pos) 0 (.ref it) .none cenv)) [] s := by
  have loop := fun s₀ => seg_tup (iter := iter) (scope := scope) (pos := pos) hc hco T hp0 pg pt pe turn m 0 n s₀ s H hmn I st nf w
  show Seg _ A _ _ _ s₀ _ ((compStart (.GeneratorExp elt [⟨tg, iter, ifs, 0⟩] scope pos) 0 (.ref it) .none cenv).onRaise (leaving cenv)) [] s
  unfold compStart
  rw [Sem.onRaise_eq_wrap]
  show Seg _ A _ _ _ s₀ _ ((ask >>= _).wrap _ _ _ _) [] s
  refine seg_bind_wrap (wpAny_askSetting ?_)
  split
  · exact seg_again rfl (loop s₀)
  · first
      | exact seg_bind_wrap (wpAny_rule (seg_bind_wrap (wpAny_standAt (seg_bind_wrap (T.self _ 0 s _ _ st (seg_again rfl (loop s₀)))))))
      | (refine seg_bind_wrap (wpAny_rule ?_); show Seg _ A _ _ _ s₀ _ ((standAt iter.pos >>= _).wrap _ _ _ _) [] s; exact seg_bind_wrap (wpAny_standAt (seg_bind_wrap (T.self _ 0 s _ _ st (seg_again rfl (loop s₀))))))
theorem mapSeq_push (its : List Value) (n : Nat) (u : Value) : ∃ n', Obj.mapSeq (·.push u) { cls := .type "list", data := .seq its.toArray n } = { cls := .type "list", data := .seq (its ++ [u]).toArray n' } := by
  rw [show (its ++ [u]).toArray = its.toArray.push u by simp]
  exact ⟨_, rfl⟩
theorem collect_mono {M : Model} {A : Around} {v : Value} {Q Q' : List Value → Shared → Prop} {E E' : Value → Shared → Prop} {s : Shared} (h : wpAny M A (collect v) Q E s) (hE : ∀ e s', E e s' → E' e s') (hq : ∀ xs s', Q xs s' → Q' xs s') : wpAny M A (collect v) Q' E' s := wpAny_mono h hq hE
/-- the loop that gathers -/
theorem tup_loop {G : Cx} {p0 : List (Addr × Obj)} {Qe : Hp → Prop} {A : Around} {R : Result → Shared → Prop} {a S : Addr} {g : Nat} {oa : Obj} {res : Value} (hh : A.handled = none) (hd : A.depth < recursionLimit)
    (hpa : (a, oa) ∈ p0) (hga : ∀ h : Heap, h.get? a = some oa → h.IsGen a g)
    (hT : ∀ s1 s' σ2 H, Inv G p0 σ2 H s1 → Qe H → Woken s1 s' → R (.ok (.ret res)) s') :
    ∀ (n : Nat) (s : Shared), s.heap.IsGen a g → s.heap.NoLimit →
      (∃ gs, s.gens[g]? = some gs ∧ gs.Goes (model G.prog G.w) A.in1.in1 (RTup G p0 Qe) (YTup G p0 S) n (.send .none) (s.setGen g .running)) →
      codeAny (model G.prog G.w) A (.builtin "list.extend.loop" ⟨[.ref S, .ref a, res], []⟩) R s := by
  have upd1 : ∀ {s₁ s'' : Shared} {σ2 : L2.St} {H : Hp} {xs : List V} {y : V} {v : Value} {its : List Value} {nn : Nat}, Inv G p0 σ2 H s₁ → RelV y v → Vals xs its → s₁.heap.get? S = some { cls := .type "list", data := .seq its.toArray nn } → xs.length < sizeLine →
      s''.heap = s₁.heap.update S (Obj.mapSeq (·.push v)) → s''.os = s₁.os → AllBare s''.gens → Pushed G S xs y s₁ s'' := fun {s₁ s'' σ2 H xs y v its nn} _ ry r ho hlt e1 e2 e3 pins σ H0 I0 h0 => by
    obtain ⟨n', hf⟩ := mapSeq_push its nn v
    exact inv_woken (I0.lstUpd h0 ho hf (r.append (.cons ry .nil)) (by rw [List.length_append]; exact hlt) s₁.toks) ⟨e2, e3, fun b o e => by rw [e1]; exact e⟩
  intro n
  induction n with
  | zero =>
    intro s hg hl ⟨gs, hgs, hgo⟩
    refine codeAny_builtin F.entry_extend_loop ?_
    rw [Around.under_plainId F.plain_extend_loop _]
    show wpAny _ A.in1 (pyNext (.ref a) >>= _) _ _ s
    refine wpAny_bind (next_genG (A := A.in1) (F := FTup G p0 Qe) (Er := fun _ _ => False) hh hl hd hg hgs hgo (fun v s₁ gs' hbare hv => ?_) (fun s₁ hp h' hk => ?_) fun e s₁ he => he.elim)
    · obtain ⟨σ2, H, xs, y, ry, I, hS, hlt, hk⟩ := hv
      obtain ⟨its, nn, r, ho, hz⟩ := I.lst hS
      exact False.elim (hk { s₁ with heap := s₁.heap.update S (Obj.mapSeq (·.push v)) } (upd1 I ry r ho hlt rfl rfl I.bare))
    · obtain ⟨σ2, H, I, hq⟩ := hp
      exact wpAny_pure (hT s₁ _ σ2 H I hq ⟨rfl, allBare_setGen I.bare rfl, hk⟩)
  | succ n ih =>
    intro s hg hl ⟨gs, hgs, hgo⟩
    have hgl : g < s.gens.size := (Array.getElem?_eq_some_iff.mp hgs).1
    refine codeAny_builtin F.entry_extend_loop ?_
    rw [Around.under_plainId F.plain_extend_loop _]
    show wpAny _ A.in1 (pyNext (.ref a) >>= _) _ _ s
    refine wpAny_bind (wpAny_gsz (n := g + 1) hgl (next_genG (A := A.in1) (F := FTup G p0 Qe) (Er := fun _ _ => False) hh hl hd hg hgs hgo (fun v s₁ gs' hbare hv => ?_) (fun s₁ hp h' hk => ?_) fun e s₁ he => he.elim))
    · intro hsz
      obtain ⟨σ2, H, xs, y, ry, I, hS, hlt, hk⟩ := hv
      obtain ⟨its, nn, r, ho, hz⟩ := I.lst hS
      have hsz1 : g < s₁.gens.size := by
        have q : (s₁.setGen g gs').gens.size = s₁.gens.size := setGen_size _ _ _
        have hsz' : g + 1 ≤ (s₁.setGen g gs').gens.size := hsz
        omega
      have hlen := r.length
      have I1 : Inv G p0 σ2 (upd H S (.lst (xs ++ [y]))) { s₁ with heap := s₁.heap.update S (Obj.mapSeq (·.push v)) } := upd1 (s'' := { s₁ with heap := s₁.heap.update S (Obj.mapSeq (·.push v)) }) I ry r ho hlt rfl rfl I.bare _ _ _ I hS
      show wpAny _ A.in1 (updateSeq S (·.push v) >>= _) _ _ _
      refine wpAny_bind ?_
      refine wpAny_updateSeq (s := s₁.setGen g gs') ho rfl (wpAny_pure ⟨plainId_quiet F.plain_extend_loop _, ?_⟩) (by simp only [List.size_toArray]; omega) (by show (its.toArray.push v).size ≤ sizeLine + 1; rw [Array.size_push, List.size_toArray]; omega)
      refine ih { s₁.setGen g gs' with heap := s₁.heap.update S (Obj.mapSeq (·.push v)) } (hga _ (I1.pin (a, oa) (List.mem_append_right _ hpa)).1) I1.nolimit ⟨gs', setGen_at hsz1, hk _ (upd1 I ry r ho hlt rfl rfl (allBare_setGen (s := { s₁.setGen g gs' with heap := _ }) (allBare_setGen I.bare hbare) rfl))⟩
    · intro hsz
      obtain ⟨σ2, H, I, hq⟩ := hp
      exact wpAny_pure (hT s₁ _ σ2 H I hq ⟨rfl, allBare_setGen I.bare rfl, hk⟩)
/-- collect of such a generator -/
theorem collect_genX {G : Cx} {p0 : List (Addr × Obj)} {Qe : Hp → Prop} {A : Around} {Q : List Value → Shared → Prop} {E : Value → Shared → Prop} {a : Addr} {g : Nat} {oa : Obj} {s : Shared} (hh : A.handled = none) (hd : A.depth < recursionLimit)
    (hpa : (a, oa) ∈ p0) (hga : ∀ h : Heap, h.get? a = some oa → h.IsGen a g) (ha : s.heap.get? a = some oa) (hl : s.heap.NoLimit)
    (go : ∀ (h' : Heap) (c : Nat), (∀ b o, s.heap.get? b = some o → h'.get? b = some o) → h'.get? s.heap.objs.size = some { cls := .type "list", data := .seq ([] : List Value).toArray c } →
      ∃ gs n, s.gens[g]? = some gs ∧ gs.Goes (model G.prog G.w) A.in1.in1 (RTup G p0 Qe) (YTup G p0 s.heap.objs.size) n (.send .none) (({ s with heap := h' } : Shared).setGen g .running))
    (hQ : ∀ s1 s' σ2 H, Inv G p0 σ2 H s1 → Qe H → Woken s1 s' → ∃ its n, s'.heap.get? s.heap.objs.size = some { cls := .type "list", data := .seq (its : List Value).toArray n } ∧ Q its s') :
    wpAny (model G.prog G.w) A (collect (.ref a)) Q E s := by
  have hSa : s.heap.objs.size ≠ a := Nat.ne_of_gt (Heap.lt_size ha)
  unfold collect
  refine wpAny_bind (wpAny_runValue (codeAny_builtin F.entry_proto_collect ?_))
  rw [Around.under_plainId F.plain_proto_collect _]
  show wpAny _ A.in1 (newList [] >>= fun l => again (.builtin "list.__iadd__" ⟨[l, .ref a], []⟩)) _ _ s
  refine wpAny_bind (wpAny_newObj_type ?_)
  refine wpAny_pure ⟨plainId_quiet F.plain_list_iadd _, codeAny_builtin F.entry_list_iadd ?_⟩
  rw [Around.under_plainId F.plain_list_iadd _]
  have k1 : ∀ b o, s.heap.get? b = some o → (s.heap.push { cls := .type "list", data := .seq ([] : List Value).toArray }).get? b = some o := fun b o e => Heap.get?_push_of_some _ e
  have gty : ∀ {h : Heap}, (∀ b o, s.heap.get? b = some o → h.get? b = some o) → h.IsGen a g := fun {h} q => hga h (q _ _ ha)
  show wpAny _ A.in1 (Builtin.List.listExtendWith (.ref s.heap.objs.size) (.ref a) (.ref s.heap.objs.size)) _ _ _
  unfold Builtin.List.listExtendWith
  refine wpAny_bind (wpAny_typeOf (Heap.IsGen.typeIs (s := { s with heap := _ }) (gty k1)) ?_)
  have h1 : Builtin.List.listSameRef (.ref s.heap.objs.size) (.ref a) = false := by simp [Builtin.List.listSameRef, hSa]
  have h2 : (Value.type "generator" == Value.type "list") = false := by decide
  have h3 : (Value.type "generator" == Value.type "tuple") = false := by decide
  simp only [h1, h2, h3, Bool.or_false, Bool.false_eq_true, if_false]
  refine wpAny_bind (wpAny_pyIter_gen (s := { s with heap := _ }) (gty k1) ?_)
  refine wpAny_bind (wpAny_holding ?_)
  unfold Builtin.List.listLengthHint
  refine wpAny_bind (wpAny_specialOf (Heap.IsGen.typeIs (s := { s with heap := _ }) (gty k1)) F.gen_no_len ?_)
  show wpAny _ A.in1 (specialOf (Value.ref a) (Str.ofString "__length_hint__") >>= _) _ _ _
  refine wpAny_bind (wpAny_specialOf (Heap.IsGen.typeIs (s := { s with heap := _ }) (gty k1)) F.gen_no_hint ?_)
  refine wpAny_pure ?_
  show wpAny _ A.in1 (rule "list.extend.makes-room" >>= fun _ => Builtin.List.listTouch (.ref s.heap.objs.size) >>= fun _ =>
    again (.builtin "list.extend.loop" ⟨[.ref s.heap.objs.size, .ref a, .ref s.heap.objs.size], []⟩)) _ _ _
  refine wpAny_bind (wpAny_rule ?_)
  have hS₁ : (s.heap.push { cls := .type "list", data := .seq ([] : List Value).toArray }).get? s.heap.objs.size = some { cls := .type "list", data := .seq ([] : List Value).toArray } := Heap.get?_push_size _ rfl
  refine wpAny_bind ?_
  show wpAny _ A.in1 (updateSeq s.heap.objs.size (·.push .none) >>= fun _ => updateSeq s.heap.objs.size (·.pop)) _ _ _
  refine wpAny_bind (wpAny_updateSeq hS₁ rfl ?_)
  have hS₂ := Heap.get?_update_self (Obj.mapSeq (·.push Value.none)) hS₁ rfl
  refine wpAny_updateSeq hS₂ rfl ?_
  have hS₃ := Heap.get?_update_self (Obj.mapSeq (·.pop)) hS₂ rfl
  have up : ∀ (h : Heap) (f : Obj → Obj), (∀ b o, s.heap.get? b = some o → h.get? b = some o) → ∀ b o, s.heap.get? b = some o → (h.update s.heap.objs.size f).get? b = some o := fun h f q b o e =>
    (Heap.get?_update_other _ _ (Ne.symm (Nat.ne_of_lt (Heap.lt_size e)))).trans (q b o e)
  have k3 := up _ (Obj.mapSeq (·.pop)) (up _ (Obj.mapSeq (·.push Value.none)) k1)
  obtain ⟨gs, n, g1, g2⟩ := go _ _ k3 hS₃
  refine wpAny_pure ⟨plainId_quiet F.plain_extend_loop _, tup_loop (G := G) (p0 := p0) (A := A) (Qe := Qe) hh hd hpa hga (fun s1 s' σ2 H I1 hq wk => ?_) n _ (gty k3) (hl.keeps k3) ⟨gs, g1, g2⟩⟩
  obtain ⟨its, nn, hS', q⟩ := hQ s1 s' σ2 H I1 hq wk
  show wpAny _ A (load s.heap.objs.size >>= _) _ _ s'
  refine wpAny_bind (wpAny_load hS' ?_)
  refine wpAny_pure ?_
  have e : its.toArray.toList = its := by simp
  show Q its.toArray.toList s'
  rw [e]
  exact q
theorem code_tuple_newX {prog : Program} {w : World} {A : Around} {E : Value → Shared → Prop} {s : Shared} {a : Addr} {Q₁ : Value → Shared → Prop} (hTI : s.TypeIs (.ref a) "generator")
    (hc : wpAny (model prog w) A.in1 (collect (.ref a)) (fun xs s' => xs.length ≤ sizeLine ∧ Q₁ (.ref s'.heap.objs.size) { s' with heap := s'.heap.push { cls := .type "tuple", data := .seq xs.toArray } }) E s) :
    codeAny (model prog w) A (.call (.builtin "tuple.__new__") ⟨[.type "tuple", .ref a], []⟩) (wants Q₁ E) s := by
  refine codeAny_of_tree ?_
  show wpAny _ A.in1 (do checkBuiltinCall "tuple.__new__" ⟨[.type "tuple", .ref a], []⟩; again (.builtin "tuple.__new__" ⟨[.type "tuple", .ref a], []⟩)) _ _ s
  refine wpAny_bind (wpAny_of_eq (F.newCall_tuple_1 _) (wpAny_pure ⟨plainId_quiet F.plain_tuple_new _, codeAny_builtin F.entry_tuple_new ?_⟩))
  rw [Around.under_plainId F.plain_tuple_new _]
  have hsub := sub_tuple_self
  have hinit := init_tuple_lookup
  have hmh := madeHere_tuple
  wp_walk using wpAny_typeOf hTI, collect_mono hc (fun e s' h => h)
  intro xs s' h
  show wpAny _ _ (Builtin.Tuple.tupleExact xs.toArray >>= fun v => ret v) _ _ _
  unfold Builtin.Tuple.tupleExact
  refine wpAny_bind (wpAny_newObj_type ?_ (by show xs.toArray.size ≤ sizeLine; rw [List.size_toArray]; exact h.1))
  exact wpAny_pure h.2
/-- tuple(e for x in ..): as a list comprehension, the list at D; a new tuple of it -/
def tTupG (P : Addr) (wi : TI) (g : TG) (tt : TT) (te : TE) (vs : List Nat) : TE := fun σ H Q => wi σ H fun J H1 => TabG H1 P ∧ ∀ H2, Tabbed P H1 H2 → ∀ D, H2 D = none →
  ∃ W : Nat → Nat → Hp → Prop, (∃ m, W 0 m (upd H2 D (.lst []))) ∧ TupTurns J g tt te vs (wipe σ vs) D W (fun H => ∃ xs, H D = some (.lst xs) ∧ ∀ p, H p = none → Q (.ref p) (upd H p (.tup xs)))
theorem pe_tupG {c P : Addr} {elt tg iter : Expr} {ifs : List Expr} {scope : Scope} {own : List (Str × Nat)} {p pos gpos : Pos} {wi : TI} {g : TG} {tt : TT} {te : TE} {k : Nat}
    (hr : Room (k + 6) X.A) (hgl : Gl X "tuple") (hm : X.mg "tuple" = none) (TB : TabB X.base X.mg c P) (hcode : X.env.code = .ref c) (hc : X.calm = true) (hN : X.N.Nodup) (hi : PI X tg iter wi) (ok : BlkOk X.N X.env.scope scope own) (S : GScp scope)
    (hg : ∀ (s : Shared) (H : Hp) (C : Addr) (cl : List (Str × Addr)) (code : Value) (fp : List Addr) (A : Around), Room k A → PG (gen X s H (genEnv scope cl C code builtinsNs X.env) fp A) tg g)
    (ht : ∀ (s : Shared) (H : Hp) (C : Addr) (cl : List (Str × Addr)) (code : Value) (fp : List Addr) (A : Around), Room k A → PTs (gen X s H (genEnv scope cl C code builtinsNs X.env) fp A) ifs tt)
    (he : ∀ (s : Shared) (H : Hp) (C : Addr) (cl : List (Str × Addr)) (code : Value) (fp : List Addr) (A : Around), Room k A → PE (gen X s H (genEnv scope cl C code builtinsNs X.env) fp A) elt te)
    (hs : ∀ v, genFold iter X.env v = pure v)
    (hst : starEach [.GeneratorExp elt [⟨tg, iter, ifs, 0⟩] scope gpos] X.env = (false, eval (.GeneratorExp elt [⟨tg, iter, ifs, 0⟩] scope gpos) X.env) :: starEach [] X.env := by rfl) :
    PE X (.Call (.Name "tuple" p) [.GeneratorExp elt [⟨tg, iter, ifs, 0⟩] scope gpos] [] pos) (tTupG P wi g tt te (own.map (·.2))) := by
  refine ⟨fun pins s σ H Q I h => ?_⟩
  have hfree : ∀ y ∈ scope.names, y.2 = .free → ∃ c, X.env.cells.lookup y.1 = some c := fun y hy e => by
    rcases ok.free y hy e with k | k
    · exact I.ok.has _ (.inl k)
    · exact I.ok.has _ (.inr k)
  refine wpAny_Call_Name_kw (ld_blt I hgl hm (by decide +kernel : bootBuiltins "tuple" = some (.type "tuple")) ?_)
  refine PyProof.Rows.callWith_type1 ?_ hst (by rfl)
  rw [hst]
  show wpAny _ _ (spliced ((false, eval (.GeneratorExp elt [⟨tg, iter, ifs, 0⟩] scope gpos) X.env) :: backTo pos (starEach [] X.env))) _ _ s
  refine Calls.spliced_cons ?_
  refine wpAny_GeneratorExp_make S.co (closure_ok hfree) S.nc S.dot ok.kind (by have := hr.dp; omega) ?_ hs
  refine thn (hi.run pins s σ H _ I h) fun xv s1 hx => thn hx fun itv s2 h2 => ?_
  obtain ⟨it, fp, tn, J, H2, e, I2, T, st2, f2, ⟨ps, hP, ht0⟩, q⟩ := h2
  subst e
  refine ⟨I2.nolimit, ?_⟩
  have hPs : s2.heap.get? P = some { cls := .none, data := .fields ps } := I2.hok P _ hP
  have cd : PySem.W.CodeHd s2.heap c P := TB.code.keeps fun b u e => I2.bk b u e
  have fpP : ∀ b ∈ fp, b ≠ P := fun b hb z => by
    have := (f2 b hb).1
    rw [z, hP] at this
    cases this
  have sz : ∀ b ∈ fp, b < s2.heap.objs.size := fun b hb => by
    obtain ⟨o, e, _⟩ := T.obj _ _ st2 b hb
    exact Heap.lt_size e
  have cont : ∀ (code : Value) (h3 : Heap) (tk : Nat) (ps' : Array Value), Heap.ExtBut P s2.heap h3 → s2.heap.objs.size ≤ h3.objs.size → h3.get? P = some { cls := .none, data := .fields ps' } → (∃ more, ps' = ps ++ more) → TriplesOk ps'.toList →
      wpAny (model X.prog X.w) X.A (builtinsFor X.env.globals X.env.builtins) (fun bi s₄ =>
        ∀ h', h'.Ns s₄.heap.objs.size (fun y => if y = ".0" then some (.ref it) else none) → Heap.SameBut s₄.heap.objs.size (s₄.heap.push { cls := .type "frame", data := .dict #[] }) h' →
          wpAny (model X.prog X.w) X.A (spliced (backTo pos (starEach [] X.env))) (fun vs s₁ => wpAny (model X.prog X.w) X.A (call (.type "tuple") (.ref h'.objs.size :: vs)) (EP X pins σ Q) X.xe s₁) X.xe { s₄ with
            gens := s₄.gens.push (.fresh (.compStart (.GeneratorExp elt [⟨tg, iter, ifs, 0⟩] scope gpos) 0 (.ref it) .none (genEnv scope (cloFrom X.env.cells scope.names []) s₄.heap.objs.size code bi X.env))),
            toks := s₄.toks + 1 + 1 + 1,
            heap := h'.push { cls := .type "generator", data := .fields #[.int s₄.gens.size 0, .str "<genexpr>" (s₄.toks + 1), .str (X.env.qual ++ "<genexpr>") (s₄.toks + 1 + 1)] } }) X.xe { s2 with heap := h3, toks := tk } := by
    intro code h3 tk ps' hx hsz hP3 hmore ht3
    obtain ⟨more, rfl⟩ := hmore
    obtain ⟨bm, ob, e1, e2, e3, e4, e5, e6, e7, e8⟩ := TB.bm
    have keep3 : ∀ b u, b ≠ P → s2.heap.get? b = some u → h3.get? b = some u := fun b u hb e => hx b u hb e
    refine wpAny_builtinsFor (m := X.mg) (by rw [I2.ok.glob]; exact (I2.mod.glob.keeps I2.bk).extBut hx TB.gP) e1 e2 (keep3 _ _ e4 (I2.bk _ _ e5)) e6 e7 e8 ?_
    generalize hs4 : ({ s2 with heap := h3, toks := tk } : Shared) = s4
    have h4h : s4.heap = h3 := by rw [← hs4]
    have I4 : Inv X pins σ (upd H2 P (.tbl (ps ++ more))) s4 := by
      rw [← hs4]
      exact inv_tab (more := more) (h' := h3) (g' := s2.gens) (d' := s2.drawn) (t' := tk) I2 hP keep3 hP3 I2.bare
    have hT2 : Tabbed P H2 (upd H2 P (.tbl (ps ++ more))) := ⟨⟨_, upd_same, ht3⟩, fun b hb => upd_ne hb⟩
    have q4 := q _ hT2
    generalize hH4 : upd H2 P (.tbl (ps ++ more)) = H4 at I4 q4
    have f4 : ∀ b ∈ fp, FpOk X pins H4 b ∧ b < s4.heap.objs.size := fun b hb => by
      refine ⟨⟨?_, (f2 b hb).2⟩, by rw [h4h]; exact Nat.lt_of_lt_of_le (sz b hb) hsz⟩
      rw [← hH4, upd_ne (fpP b hb)]
      exact (f2 b hb).1
    have st4 : tn 0 s4.heap := T.keep _ _ _ st2 fun b hb o e => by rw [h4h]; exact keep3 b o (fpP b hb) e
    intro h' hn' hs'
    have hsz' : h'.objs.size = s4.heap.objs.size + 1 := by rw [hs'.1, Heap.size_push]
    have keep' : ∀ b o, s4.heap.get? b = some o → h'.get? b = some o := fun b o e => hs'.extBut b o (Nat.ne_of_lt (Heap.lt_size e)) (Heap.get?_push_of_some _ e)
    generalize hoa : ({ cls := .type "generator", data := .fields #[.int s4.gens.size 0, .str "<genexpr>" (s4.toks + 1), .str (X.env.qual ++ "<genexpr>") (s4.toks + 1 + 1)] } : Obj) = oa
    generalize hcenv : genEnv scope (cloFrom X.env.cells scope.names []) s4.heap.objs.size code builtinsNs X.env = cenv
    generalize hs5 : ({ s4 with gens := s4.gens.push (.fresh (.compStart (.GeneratorExp elt [⟨tg, iter, ifs, 0⟩] scope gpos) 0 (.ref it) .none cenv)), toks := s4.toks + 1 + 1 + 1, heap := h'.push oa } : Shared) = s5
    have h5h : s5.heap = h'.push oa := by rw [← hs5]
    have kp5 : ∀ b o, s4.heap.get? b = some o → s5.heap.get? b = some o := fun b o e => by rw [h5h]; exact Heap.get?_push_of_some _ (keep' b o e)
    have ha5 : s5.heap.get? h'.objs.size = some oa := by rw [h5h]; exact Heap.get?_push_size _ (by rw [← hoa]; rfl)
    have g5 : s5.gens[s4.gens.size]? = some (.fresh (.compStart (.GeneratorExp elt [⟨tg, iter, ifs, 0⟩] scope gpos) 0 (.ref it) .none cenv)) := by rw [← hs5]; exact Array.getElem?_push_size ..
    have b5 : AllBare s5.gens := by rw [← hs5]; exact I4.bare.push rfl
    have isg : ∀ h : Heap, h.get? h'.objs.size = some oa → h.IsGen h'.objs.size s4.gens.size := fun h e => by
      rw [← hoa] at e
      exact ⟨_, _, _, e, rfl, rfl, rfl⟩
    refine Calls.spliced_nil ?_
    have back : ∀ s1 s' σ2 H', Inv (gen X s4 H4 cenv fp (X.A.in1.in1.in1.in1.deeper cenv)) [(h'.objs.size, oa)] σ2 H' s1 → Woken s1 s' → Inv X pins σ H' s' := fun s1 s' σ2 H' I1 wk =>
      inv_woken (I4.call' (ch := fp) I1.os I1.base I1.hok I1.bare fun b hb => ⟨(f4 b hb).1.2.2.2.1, (f4 b hb).1.2.1, (f4 b hb).1.2.2.2.2.1, (f4 b hb).1.2.2.2.2.2⟩) wk
    have frm : (X.A.in1.in1.in1.in1.deeper cenv).frames = some (cenv :: X.stack) := Around.frames_deeper I4.ok.frames
    have hrA : Room k (X.A.in1.in1.in1.in1.deeper cenv) := ((((((hr.mono (by omega : k + 5 ≤ k + 6)).in1).in1).in1).in1).deeper cenv)
    have I5 : Inv (gen X s4 H4 cenv fp (X.A.in1.in1.in1.in1.deeper cenv)) [] (wipe σ (own.map (·.2))) H4 (s5.setGen s4.gens.size .running) :=
      gen_start (s5 := s5.setGen s4.gens.size .running) I4 ok hN S.nc f4 hcenv.symm frm hrA.hd (by rw [← hs5]; rfl) (allBare_setGen b5 rfl) kp5 (show Heap.Ns s5.heap s4.heap.objs.size _ by rw [h5h]; exact hn'.push _)
    have I6 : Inv (gen X s4 H4 cenv fp (X.A.in1.in1.in1.in1.deeper cenv)) [(h'.objs.size, oa)] (wipe σ (own.map (·.2))) H4 (s5.setGen s4.gens.size .running) := I5.pins_of fun p hp => by
      have ep : p = (h'.objs.size, oa) := List.mem_singleton.mp hp
      subst ep
      have hge : s4.heap.objs.size ≤ h'.objs.size := by omega
      refine ⟨ha5, I4.hok.fresh hge, ?_, fun z => ?_, fun v z => ?_⟩
      · show h'.objs.size ≠ cenv.locals
        rw [← hcenv]
        show h'.objs.size ≠ s4.heap.objs.size
        omega
      · rcases List.mem_cons.mp (I4.stkSub _ z) with z | z
        · have hlt : h'.objs.size < s4.heap.objs.size := by
            rw [show h'.objs.size = X.env.locals from z]
            exact I4.lt
          exact absurd (Nat.lt_of_lt_of_le hlt hge) (Nat.lt_irrefl _)
        · exact I4.nofs hge z
      · rw [← hoa] at z
        cases z
    have hDn : H4 s5.heap.objs.size = none := I4.hok.fresh (by rw [h5h, Heap.size_push]; omega)
    obtain ⟨W, ⟨m0, w0⟩, turn⟩ := q4 s5.heap.objs.size hDn
    have hnf : ∀ b ∈ fp, upd H4 s5.heap.objs.size (.lst []) b = none := fun b hb => by
      have h2 : s4.heap.objs.size ≤ s5.heap.objs.size := by rw [h5h, Heap.size_push]; omega
      rw [upd_ne (Nat.ne_of_lt (Nat.lt_of_lt_of_le (f4 b hb).2 h2))]
      exact (f4 b hb).1.1
    refine callType_codes (Q₁ := fun obj s₁ => s₁.TypeIs obj "tuple" ∧ EP X pins σ Q obj s₁) F.called_tuple (F.typeCall_tuple_1 _) F.entry_object_init (code_tuple_newX (isg _ ha5).typeIs
      (collect_genX (G := gen X s4 H4 cenv fp (X.A.in1.in1.in1.in1.deeper cenv)) (p0 := [(h'.objs.size, oa)]) (A := X.A.in1.in1) (Qe := fun H => ∃ xs, H s5.heap.objs.size = some (.lst xs) ∧ ∀ p, H p = none → Q (.ref p) (upd H p (.tup xs))) hr.hd (by have := hr.dp; show X.A.depth < _; omega) (List.mem_singleton.mpr rfl) isg ha5 (I4.nolimit.keeps kp5) (fun h7 c7 kp7 hS7 => ?_) (fun s1 s' σ2 H' I1 hq wk => ?_))) fun obj s₁ h₁ => ?_
    · have I7 : Inv (gen X s4 H4 cenv fp (X.A.in1.in1.in1.in1.deeper cenv)) [(h'.objs.size, oa)] (wipe σ (own.map (·.2))) (upd H4 s5.heap.objs.size (.lst [])) (({ s5 with heap := h7 } : Shared).setGen s4.gens.size .running) :=
        I6.laid (h' := h7) (t' := s5.toks) (a := s5.heap.objs.size) (o := .lst []) (fun b u e => kp7 b u e) (Nat.le_refl _) ⟨Nat.zero_le _, [], c7, .nil, hS7⟩
      refine ⟨_, m0 + 1, g5, rfl, ?_⟩
      exact seg_tupStart (iter := iter) (scope := scope) (pos := gpos) (A := X.A.in1.in1.in1.in1) (p0 := [(h'.objs.size, oa)]) hc (by rw [← hcenv]; exact S.co) T (fun p hp z => by
          rw [List.mem_singleton.mp hp] at z
          have := (f4 _ z).2
          have hge : s4.heap.objs.size ≤ h'.objs.size := by omega
          exact absurd (Nat.lt_of_lt_of_le this hge) (Nat.lt_irrefl _))
        (by rw [← hcenv]; exact hg s4 H4 _ _ code fp _ (by rw [hcenv]; exact hrA)) (by rw [← hcenv]; exact ht s4 H4 _ _ code fp _ (by rw [hcenv]; exact hrA)) (by rw [← hcenv]; exact he s4 H4 _ _ code fp _ (by rw [hcenv]; exact hrA))
        turn m0 (m0 + 1) _ _ _ (by omega) I7 (T.keep _ _ _ st4 fun b _ o e => kp7 b o (kp5 b o e)) hnf w0
    · obtain ⟨xs, hx, hq⟩ := hq
      obtain ⟨its, nn, r, ho, hz⟩ := I1.lst hx
      have hlen := r.length
      refine ⟨its, nn, wk.2.2 _ _ ho, by omega, ⟨_, Heap.get?_push_size _ rfl, rfl⟩, ?_⟩
      have Ib := back s1 s' σ2 H' I1 wk
      exact ⟨.ref s'.heap.objs.size, upd H' s'.heap.objs.size (.tup xs), Ib.laid (h' := s'.heap.push { cls := .type "tuple", data := .seq its.toArray }) (t' := s'.toks) (fun b o e => Heap.get?_push_of_some _ e) (Nat.le_refl _) (show ObjOk X.prog X.w _ _ _ (.tup xs) from ⟨hz, its, r, IsTup.new _ _⟩), rfl, hq _ (Ib.hok.fresh (Nat.le_refl _))⟩
    · exact ⟨h₁.1, F.args_object_init_2 obj _, object_init_meets F.called_tuple.init.lookup F.called_tuple.made (by decide) X.prog X.w X.A.in1 _ s₁ ⟨h₁.1, rfl, h₁.2⟩⟩
  cases hf : codeAmong gpos ps.toList with
  | none =>
    refine wpAny_genexprCodeX hcode (cd.code hPs ht0) (cd.tab hPs) hf fun c' h' tk hx hge hlt hco' _ htab' _ => ?_
    obtain ⟨o1, vs, f1, tf, fl, tg', inF, tx, tt', op, _, _, _, _, _, _, _, _, _, htr, _⟩ := hco'
    exact cont _ h' tk _ hx (Nat.le_trans hge (Nat.le_of_lt hlt)) htab'.2 ⟨_, rfl⟩ htr
  | some cv =>
    refine wpAny_genexprCode_hit hcode (cd.code hPs ht0) hf ?_
    exact cont cv s2.heap s2.toks ps (Heap.ExtBut.refl _ _) (Nat.le_refl _) hPs ⟨#[], by simp⟩ ht0
end
end Zk
set_option Elab.async false
set_option linter.all false
set_option maxRecDepth 100000
set_option maxHeartbeats 2000000
/-! Rows of parts; what a def with a table keeps. -/
namespace Zk
open PySem PySem.Spec PyProof.Rows L2 GxR RZ
/-! ### all kept, but the table at Pt has grown -/
structure Kt (Pt : Addr) (H H' : Hp) : Prop where
  keep : ∀ b o, b ≠ Pt → H b = some o → H' b = some o
  tab : TabG H' Pt
theorem Kt.kp {Pt : Addr} {H H' : Hp} (k : Kt Pt H H') (h : TabG H Pt) : Kp H H' := fun b o n e => by
  obtain ⟨ps, hp, _⟩ := h
  exact k.keep b o (ne_of e hp (n ps)) e
theorem Kt.tg {Pt P' : Addr} {H H' : Hp} (k : Kt Pt H H') (h : TabG H P') : TabG H' P' := by
  by_cases z : P' = Pt
  · rw [z]; exact k.tab
  · obtain ⟨ps, hp, t⟩ := h
    exact ⟨ps, k.keep _ _ z hp, t⟩
theorem Kt.of_same {Pt : Addr} {H H' : Hp} (e : Same H H') (h : TabG H Pt) : Kt Pt H H' := ⟨fun b o _ q => e b o q, tg_same h e⟩
theorem Kt.of_tab {Pt : Addr} {H H' : Hp} (e : Tabbed Pt H H') : Kt Pt H H' := ⟨fun b o n q => by rw [e.2 b n]; exact q, e.1⟩
theorem Kt.trans {Pt : Addr} {H H1 H2 : Hp} (a : Kt Pt H H1) (b : Kt Pt H1 H2) : Kt Pt H H2 := ⟨fun c o n q => b.keep c o n (a.keep c o n q), b.tab⟩
/-- all kept, but the table at Pt and the list at D -/
structure Kd (Pt D : Addr) (H H' : Hp) : Prop where
  keep : ∀ b o, b ≠ Pt → b ≠ D → H b = some o → H' b = some o
  tab : TabG H' Pt
theorem Kd.start {Pt D : Addr} {H H2 : Hp} {o : HO} (T : Tabbed Pt H H2) (n : H2 D = none) : Kd Pt D H (upd H2 D o) := by
  have nD : Pt ≠ D := fun z => by
    obtain ⟨ps, hp, _⟩ := T.1
    rw [z, n] at hp
    cases hp
  refine ⟨fun b u h1 h2 e => ?_, ?_⟩
  · rw [upd_ne h2, T.2 b h1]; exact e
  · obtain ⟨ps, hp, t⟩ := T.1
    exact ⟨ps, by rw [upd_ne nD]; exact hp, t⟩
theorem Kd.same {Pt D : Addr} {H H1 H2 : Hp} (k : Kd Pt D H H1) (e : Same H1 H2) : Kd Pt D H H2 := ⟨fun b o h1 h2 q => e _ _ (k.keep b o h1 h2 q), tg_same k.tab e⟩
theorem Kd.upd {Pt D : Addr} {H H1 : Hp} {xs : List V} {o : HO} (k : Kd Pt D H H1) (hD : H1 D = some (.lst xs)) : Kd Pt D H (upd H1 D o) := by
  obtain ⟨ps, hp, t⟩ := k.tab
  have n : Pt ≠ D := ne_of hp hD (fun z => by cases z)
  exact ⟨fun b u h1 h2 q => by rw [upd_ne h2]; exact k.keep b u h1 h2 q, ps, by rw [upd_ne n]; exact hp, t⟩
theorem Kd.kt {Pt D : Addr} {H H1 : Hp} (k : Kd Pt D H H1) (n : H D = none) : Kt Pt H H1 := ⟨fun b o h1 q => k.keep b o h1 (ne_of_none q n) q, k.tab⟩
theorem Kd.get {Pt D : Addr} {H H1 : Hp} {b : Addr} {o : HO} (k : Kd Pt D H H1) (n : H D = none) (h : TabG H Pt) (e : H b = some o) (no : ∀ ps, o ≠ .tbl ps) : H1 b = some o := by
  obtain ⟨ps, hp, _⟩ := h
  exact k.keep b o (ne_of e hp (no ps)) (ne_of_none e n) e
theorem same_upd {H : Hp} {p : Addr} {o : HO} (n : H p = none) : Same H (upd H p o) := fun b u e => by rw [upd_ne (ne_of_none e n)]; exact e
/-! ### the loop of tuple(..) -/
theorem tup_steps {J : It} {g : TG} {tt : TT} {te : TE} {vs : List Nat} {σw : L2.St} {D : Addr} {H0 : Hp} {Qe : Hp → Prop} (n : Nat) (Pv : Nat → Hp → Prop) (h0 : Pv 0 H0) (hgo : ∀ i H, i < n → Pv i H → J.go i H) (hstop : ∀ H, Pv n H → J.stop n H)
    (hs : ∀ i H x H', i < n → Pv i H → J.yld i H x H' → g x σw H' fun σ2 H2 => wipe σ2 vs = σw ∧ tt σ2 H2 fun b H3 => if b = true then te σ2 H3 fun y H4 => ∃ xs, H4 D = some (.lst xs) ∧ xs.length < sizeLine ∧ Pv (i + 1) (upd H4 D (.lst (xs ++ [y]))) else Pv (i + 1) H3)
    (hd : ∀ H, Pv n H → Qe H) : ∃ W : Nat → Nat → Hp → Prop, (∃ m, W 0 m H0) ∧ TupTurns J g tt te vs σw D W Qe := by
  refine ⟨fun i m H => m = n - i ∧ i ≤ n ∧ Pv i H, ⟨n, rfl, Nat.zero_le _, h0⟩, ?_⟩
  rintro i m H ⟨rfl, hi, p⟩
  by_cases h : i < n
  · exact .inr ⟨hgo i H h p, Pv (i + 1), fun H' p' => ⟨n - (i + 1), by omega, rfl, h, p'⟩, fun x H' hy => hs i H x H' h p hy⟩
  · have e : i = n := by omega
    subst e
    exact .inl ⟨hstop H p, hd H p⟩
theorem tup_zip {K : PySem.W.Frag} {a b : Addr} {xs ys : List V} {g : TG} {tt : TT} {te : TE} {vs : List Nat} {σw : L2.St} {D : Addr} {H0 : Hp} {Qe : Hp → Prop} (hl : xs.length = ys.length) (Pv : Nat → Hp → Prop) (h0 : Pv 0 H0) (hq : ∀ i H, Pv i H → SqT K H a xs ∧ SqT K H b ys)
    (hs : ∀ (i : Nat) (x y : V) (T : Addr) (H : Hp), xs[i]? = some x → ys[i]? = some y → Pv i H → H T = none → g (.ref T) σw (upd H T (.tup [x, y])) fun σ2 H2 => wipe σ2 vs = σw ∧ tt σ2 H2 fun b H3 => if b = true then te σ2 H3 fun y H4 => ∃ xs, H4 D = some (.lst xs) ∧ xs.length < sizeLine ∧ Pv (i + 1) (upd H4 D (.lst (xs ++ [y]))) else Pv (i + 1) H3)
    (hd : ∀ H, Pv xs.length H → Qe H) : ∃ W : Nat → Nat → Hp → Prop, (∃ m, W 0 m H0) ∧ TupTurns (ItzT K a b) g tt te vs σw D W Qe := by
  refine tup_steps xs.length Pv h0 (fun i H hi p => ?_) (fun H p => ?_) (fun i H v H' hi p hy => ?_) hd
  · obtain ⟨qx, qy⟩ := hq i H p
    exact ⟨xs, ys, xs[i], ys[i], qx, qy, List.getElem?_eq_getElem hi, List.getElem?_eq_getElem (by omega)⟩
  · obtain ⟨qx, qy⟩ := hq _ H p
    exact ⟨xs, ys, qx, qy, .inl (Nat.le_refl _)⟩
  · obtain ⟨qx, qy⟩ := hq i H p
    obtain ⟨T, x', y', rfl, hT, rfl, f1, f2⟩ := hy
    exact hs i x' y' T H (f1 xs qx) (f2 ys qy) p hT
theorem tup_tup {K : PySem.W.Frag} {a : Addr} {xs : List V} {g : TG} {tt : TT} {te : TE} {vs : List Nat} {σw : L2.St} {D : Addr} {H0 : Hp} {Qe : Hp → Prop} (Pv : Nat → Hp → Prop) (h0 : Pv 0 H0) (hq : ∀ i H, Pv i H → SqT K H a xs)
    (hs : ∀ (i : Nat) (x : V) (H : Hp), xs[i]? = some x → Pv i H → g x σw H fun σ2 H2 => wipe σ2 vs = σw ∧ tt σ2 H2 fun b H3 => if b = true then te σ2 H3 fun y H4 => ∃ xs, H4 D = some (.lst xs) ∧ xs.length < sizeLine ∧ Pv (i + 1) (upd H4 D (.lst (xs ++ [y]))) else Pv (i + 1) H3)
    (hd : ∀ H, Pv xs.length H → Qe H) : ∃ W : Nat → Nat → Hp → Prop, (∃ m, W 0 m H0) ∧ TupTurns (Itt K a) g tt te vs σw D W Qe := by
  refine tup_steps xs.length Pv h0 (fun i H hi p => ⟨xs, xs[i], hq i H p, List.getElem?_eq_getElem hi⟩) (fun H p => ⟨xs, hq _ H p, Nat.le_refl _⟩) (fun i H v H' hi p hy => ?_) hd
  obtain ⟨rfl, f1⟩ := hy
  exact hs i v _ (f1 xs (hq i _ p)) p
theorem z_tupG {P : Addr} {wi : TI} {g : TG} {tt : TT} {te : TE} {vs : List Nat} {σ : L2.St} {H : Hp} {Q : VK} (q : wi σ H fun J H1 => TabG H1 P ∧ ∀ H2, Tabbed P H1 H2 → ∀ D, H2 D = none →
  ∃ W : Nat → Nat → Hp → Prop, (∃ m, W 0 m (upd H2 D (.lst []))) ∧ TupTurns J g tt te vs (wipe σ vs) D W (fun H => ∃ xs, H D = some (.lst xs) ∧ ∀ p, H p = none → Q (.ref p) (upd H p (.tup xs)))) : tTupG P wi g tt te vs σ H Q := q
theorem z_zipA {K : PySem.W.Frag} {ta : TA} {σ : L2.St} {H : Hp} {R : It → Hp → Prop} (q : ta σ H fun vs H1 => ∃ a b xs ys, vs = [.ref a, .ref b] ∧ ((SqL K H1 a xs ∧ SqL K H1 b ys ∧ R (Itz K a b) H1) ∨ (SqT K H1 a xs ∧ SqT K H1 b ys ∧ R (ItzT K a b) H1))) : iZipA K ta σ H R := q
theorem op_repTE {X : Cx} (K : PySem.W.Frag) (e : X.K = K := by rfl) : OpR X (binaryOp .Mult) (rRepT K) := by rw [← e]; exact op_repT
theorem pi_zipE {X : Cx} (K : PySem.W.Frag) {e e2 : Expr} {ta : TA} {p pos tpos : Pos} {elts : List Expr} {kk : Nat} (hg : Gl X "zip") (hm : X.mg "zip" = none) (ha : PA X [e, e2] ta) (ek : X.K = K := by rfl)
    (hs : starEach [e, e2] X.env = (false, eval e X.env) :: starEach [e2] X.env := by rfl) (hpl : (backTo pos (starEach [e2] X.env)).any (·.1) = false := by rfl) :
    PI X (.Tuple elts kk tpos) (.Call (.Name "zip" p) [e, e2] [] pos) (iZipA K ta) := by rw [← ek]; exact pi_zipA hg hm ha hs hpl
theorem z_repT1 {K : PySem.W.Frag} {H : Hp} {Q : VK} {l : Addr} {v : V} {k : Int} (h : H l = some (.tup [v])) (h2 : 2 ≤ k) (h3 : k ≤ 1000) (q : ∀ p H', H p = none → Same H H' → H' p = some (.tup (List.replicate k.toNat v)) → Q (.ref p) H') : rRepT K (.ref l) (.int k) H Q :=
  ⟨l, k, [v], rfl, rfl, SqT.of h, by simp, h2, h3, by simp, fun p hp => q p _ hp (same_upd hp) (by rw [upd_same, List.flatten_replicate_singleton])⟩
/-! ### rows -/
abbrev Pt : Type := Int × Nat
def PtV (H : Hp) (v : V) (d : Pt) : Prop := ∃ q, v = .ref q ∧ H q = some (.tup [.int d.1, .int (d.2 : Int)])
theorem PtV.kp {H H' : Hp} {v : V} {d : Pt} (h : PtV H v d) (k : Kp H H') : PtV H' v d := by
  obtain ⟨q, rfl, h⟩ := h
  exact ⟨q, rfl, k.tup h⟩
def PtsAll (H : Hp) : List V → List Pt → Prop
  | [], [] => True
  | v :: vs, d :: ds => PtV H v d ∧ PtsAll H vs ds
  | _, _ => False
theorem PtsAll.len {H : Hp} : ∀ {vs : List V} {ds : List Pt}, PtsAll H vs ds → vs.length = ds.length
  | [], [], _ => rfl
  | _ :: _, _ :: _, h => by simp only [List.length_cons]; rw [PtsAll.len h.2]
  | [], _ :: _, h => h.elim
  | _ :: _, [], h => h.elim
theorem PtsAll.get {H : Hp} : ∀ {vs : List V} {ds : List Pt} {i : Nat} {v : V}, PtsAll H vs ds → vs[i]? = some v → ∃ d, ds[i]? = some d ∧ PtV H v d
  | [], [], _, _, _, e => by simp at e
  | w :: vs, d :: ds, 0, v, h, e => by
    have e2 : w = v := by simpa using e
    exact ⟨d, rfl, e2 ▸ h.1⟩
  | _ :: vs, _ :: ds, i + 1, v, h, e => PtsAll.get (i := i) h.2 (by simpa using e)
  | [], _ :: _, _, _, h, _ => h.elim
  | _ :: _, [], _, _, h, _ => h.elim
theorem PtsAll.kp {H H' : Hp} (k : Kp H H') : ∀ {vs : List V} {ds : List Pt}, PtsAll H vs ds → PtsAll H' vs ds
  | [], [], _ => trivial
  | _ :: _, _ :: _, h => ⟨h.1.kp k, PtsAll.kp k h.2⟩
  | [], _ :: _, h => h.elim
  | _ :: _, [], h => h.elim
theorem PtsAll.snoc {H : Hp} {v : V} {d : Pt} (hv : PtV H v d) : ∀ {vs : List V} {ds : List Pt}, PtsAll H vs ds → PtsAll H (vs ++ [v]) (ds ++ [d])
  | [], [], _ => ⟨hv, trivial⟩
  | _ :: _, _ :: _, h => ⟨h.1, PtsAll.snoc hv h.2⟩
  | [], _ :: _, h => h.elim
  | _ :: _, [], h => h.elim
theorem PtsAll.rep {H : Hp} {v : V} {d : Pt} (hv : PtV H v d) : ∀ n, PtsAll H (List.replicate n v) (List.replicate n d)
  | 0 => trivial
  | n + 1 => ⟨hv, PtsAll.rep hv n⟩
/-- a list written: what are tuples stays -/
theorem PtsAll.updL {H : Hp} {D : Addr} {xs : List V} {o : HO} (hD : H D = some (.lst xs)) : ∀ {vs : List V} {ds : List Pt}, PtsAll H vs ds → PtsAll (upd H D o) vs ds
  | [], [], _ => trivial
  | _ :: _, _ :: _, h => by
    obtain ⟨⟨q, rfl, hq⟩, h2⟩ := h
    exact ⟨⟨q, rfl, by rw [upd_ne (ne_of hq hD (fun z => by cases z))]; exact hq⟩, PtsAll.updL hD h2⟩
  | [], _ :: _, h => h.elim
  | _ :: _, [], h => h.elim
theorem PtsAll.app {H : Hp} : ∀ {vs ws : List V} {ds es : List Pt}, PtsAll H vs ds → PtsAll H ws es → PtsAll H (vs ++ ws) (ds ++ es)
  | [], _, [], _, _, h => h
  | _ :: _, _, _ :: _, _, h, h2 => ⟨h.1, PtsAll.app h.2 h2⟩
  | [], _, _ :: _, _, h, _ => h.elim
  | _ :: _, _, [], _, h, _ => h.elim
def RowA (H : Hp) (p : Addr) (ds : List Pt) : Prop := ∃ vs, H p = some (.tup vs) ∧ PtsAll H vs ds
theorem RowA.kp {H H' : Hp} {p : Addr} {ds : List Pt} (h : RowA H p ds) (k : Kp H H') : RowA H' p ds := by
  obtain ⟨vs, h1, h2⟩ := h
  exact ⟨vs, k.tup h1, h2.kp k⟩
def Bd (m : Nat) (ds : List Pt) : Prop := ∀ d ∈ ds, d.1.natAbs < 2 ^ m ∧ d.2 ≤ m
def plusF (x y : Pt) : Pt := partF (x.2 + y.2) (x.1 * 2 ^ y.2 + y.1 * 2 ^ x.2)
def lessF (x y : Pt) : Pt := partF (x.2 + y.2) (x.1 * 2 ^ y.2 - y.1 * 2 ^ x.2)
theorem PtsAll.mono {H H' : Hp} (k : ∀ q xs, H q = some (.tup xs) → H' q = some (.tup xs)) : ∀ {vs : List V} {ds : List Pt}, PtsAll H vs ds → PtsAll H' vs ds
  | [], [], _ => trivial
  | _ :: _, _ :: _, h => by
    obtain ⟨⟨q, rfl, hq⟩, h2⟩ := h
    exact ⟨⟨q, rfl, k _ _ hq⟩, PtsAll.mono k h2⟩
  | [], _ :: _, h => h.elim
  | _ :: _, [], h => h.elim
theorem RowA.mono {H H' : Hp} {p : Addr} {ds : List Pt} (k : ∀ q xs, H q = some (.tup xs) → H' q = some (.tup xs)) (h : RowA H p ds) : RowA H' p ds := by
  obtain ⟨vs, h1, h2⟩ := h
  exact ⟨vs, k _ _ h1, h2.mono k⟩
/-- a law's way: all kept but the source at s and the tables of Ps -/
structure Ls (s : Addr) (Ps : List Addr) (H H' : Hp) : Prop where
  keep : ∀ b o, b ≠ s → (∀ ps, o ≠ .tbl ps) → H b = some o → H' b = some o
  src0 : Src H s
  src : Src H' s
  tt : ∀ p ∈ Ps, TabG H' p
theorem Ls.refl {s : Addr} {Ps : List Addr} {H : Hp} (h : Src H s) (t : ∀ p ∈ Ps, TabG H p) : Ls s Ps H H := ⟨fun _ _ _ _ e => e, h, h, t⟩
theorem Ls.trans {s : Addr} {Ps : List Addr} {H H1 H2 : Hp} (a : Ls s Ps H H1) (b : Ls s Ps H1 H2) : Ls s Ps H H2 := ⟨fun c o n1 n2 e => b.keep c o n1 n2 (a.keep c o n1 n2 e), a.src0, b.src, b.tt⟩
theorem Ls.same {s : Addr} {Ps : List Addr} {H H1 H2 : Hp} (l : Ls s Ps H H1) (e : Same H1 H2) : Ls s Ps H H2 := ⟨fun b o n1 n2 q => e _ _ (l.keep b o n1 n2 q), l.src0, l.src.same e, fun p hp => tg_same (l.tt p hp) e⟩
theorem Ls.dr {s : Addr} {Ps : List Addr} {H H1 H2 : Hp} (l : Ls s Ps H H1) (d : Dr s H1 H2) : Ls s Ps H H2 := ⟨fun b o n1 n2 q => d.keep _ _ n1 (l.keep b o n1 n2 q), l.src0, d.src, fun p hp => tg_dr (l.tt p hp) d⟩
theorem Ls.kt {s P : Addr} {Ps : List Addr} {H H1 H2 : Hp} (l : Ls s Ps H H1) (k : Kt P H1 H2) (hP : P ∈ Ps) : Ls s Ps H H2 :=
  ⟨fun b o n1 n2 q => k.kp (l.tt P hP) b o n2 (l.keep b o n1 n2 q), l.src0, l.src.kp (k.kp (l.tt P hP)), fun p hp => k.tg (l.tt p hp)⟩
theorem Ls.tup {s q : Addr} {Ps : List Addr} {H H1 : Hp} {xs : List V} (l : Ls s Ps H H1) (h : H q = some (.tup xs)) : H1 q = some (.tup xs) := by
  obtain ⟨a, b, c, hs⟩ := l.src0
  exact l.keep _ _ (ne_of h hs (fun z => by cases z)) (fun _ z => by cases z) h
theorem Ls.row {s q : Addr} {Ps : List Addr} {H H1 : Hp} {ds : List Pt} (l : Ls s Ps H H1) (h : RowA H q ds) : RowA H1 q ds := h.mono fun _ _ e => l.tup e
theorem Ls.lst {s q : Addr} {Ps : List Addr} {H H1 : Hp} {xs : List V} (l : Ls s Ps H H1) (n : q ≠ s) (h : H q = some (.lst xs)) : H1 q = some (.lst xs) := l.keep _ _ n (fun _ z => by cases z) h
theorem plus_zero : ∀ (ds : List Pt) (n : Nat), ds.length = n → (∀ d ∈ ds, d.2 = 0) → List.zipWith plusF ds (List.replicate n ((0, 0) : Pt)) = ds
  | [], n, h, _ => by simp
  | (x, e) :: ds, n, h, h0 => by
    obtain ⟨n, rfl⟩ : ∃ k, n = k + 1 := ⟨n - 1, by simp at h; omega⟩
    have e0 : e = 0 := h0 (x, e) (by simp)
    subst e0
    rw [List.replicate_succ, List.zipWith_cons_cons, plus_zero ds n (by simpa using h) fun d hd => h0 d (by simp [hd])]
    have : plusF (x, 0) (0, 0) = (x, 0) := by
      show partF (0 + 0) (x * 2 ^ 0 + 0 * 2 ^ 0) = (x, 0)
      rw [Int.pow_zero, Int.mul_one, Int.zero_mul, Int.add_zero]
      rfl
    rw [this]
theorem less_self : ∀ ds : List Pt, List.zipWith lessF ds ds = List.replicate ds.length ((0, 0) : Pt)
  | [] => rfl
  | (x, e) :: ds => by
    rw [List.zipWith_cons_cons, less_self ds, List.length_cons, List.replicate_succ]
    have : lessF (x, e) (x, e) = (0, 0) := by
      show partF (e + e) (x * 2 ^ e - x * 2 ^ e) = (0, 0)
      rw [Int.sub_self]
      exact partF_zero _
    rw [this]
def ptD (d : Pt) : PyData := .tuple [.int d.1, .int (d.2 : Int)]
def rowD (ds : List Pt) : PyData := .tuple (ds.map ptD)
theorem dp_pts {K : PySem.W.Frag} {H : Hp} : ∀ {vs : List V} {ds : List Pt}, PtsAll H vs ds → DpAll K H vs (ds.map ptD)
  | [], [], _ => .nil
  | _ :: _, _ :: _, h => by
    obtain ⟨⟨q, rfl, hq⟩, h2⟩ := h
    exact .cons (.tup (SqT.of hq) (.cons (.int _) (.cons (.int _) .nil))) (dp_pts h2)
  | [], _ :: _, h => h.elim
  | _ :: _, [], h => h.elim
theorem dp_row {K : PySem.W.Frag} {H : Hp} {p : Addr} {ds : List Pt} (h : RowA H p ds) : Dp K H (.ref p) (rowD ds) := by
  obtain ⟨vs, h1, h2⟩ := h
  exact .tup (SqT.of h1) (dp_pts h2)
theorem lay_pts : ∀ ds : List Pt, PyData.canLayAll0 (ds.map ptD) = true ∧ PyData.depthAll (ds.map ptD) ≤ 1
  | [] => ⟨rfl, Nat.zero_le _⟩
  | d :: ds => by
    obtain ⟨h1, h2⟩ := lay_pts ds
    refine ⟨?_, ?_⟩
    · show (PyData.canLay0 (ptD d) && PyData.canLayAll0 (ds.map ptD)) = true
      rw [h1]
      rfl
    · show max (PyData.depth (ptD d)) (PyData.depthAll (ds.map ptD)) ≤ 1
      have : PyData.depth (ptD d) = 1 := rfl
      omega
theorem sh_row (ds : List Pt) : SeqAt.shaped (rowD ds) = true := by
  obtain ⟨h1, h2⟩ := lay_pts ds
  unfold SeqAt.shaped
  have e1 : PyData.canLay0 (rowD ds) = true := h1
  have e2 : PyData.depth (rowD ds) = PyData.depthAll (ds.map ptD) + 1 := rfl
  rw [e1, e2, decide_eq_true (by omega)]
  rfl
theorem eqv_row (ds : List Pt) : PyData.eqv (rowD ds) (rowD ds) = true := SeqAt.eqv_refl _ (lay_pts ds).1
theorem z_neRow {K : PySem.W.Frag} {H : Hp} {Q : VK} {p q : Addr} {ds es : List Pt} (h1 : RowA H p ds) (h2 : RowA H q es) (e : ds = es) (k : Q (.bl false) H) : rNeD K (.ref p) (.ref q) H Q := by
  subst e
  exact z_neD (dp_row h1) (dp_row h2) (sh_row _) (sh_row _) (eqv_row _) k
theorem z_eqRow {K : PySem.W.Frag} {H : Hp} {Q : VK} {p q : Addr} {ds es : List Pt} (h1 : RowA H p ds) (h2 : RowA H q es) (e : ds = es) (k : Q (.bl true) H) : rEqD K (.ref p) (.ref q) H Q := by
  subst e
  exact z_eqD (dp_row h1) (dp_row h2) (sh_row _) (sh_row _) (eqv_row _) k
end Zk
local macro_rules | `(tactic| walk_at "z0") => `(tactic| first
  | ((with_reducible refine Zk.z_var (v := ?zv) ?zh ?_); (case zh => exact rfl))
  | (with_reducible refine Zk.z_c ?_)
  | (with_reducible refine Zk.z_op ?_)
  | (with_reducible refine Zk.z_un ?_)
  | (with_reducible refine Zk.z_I0 ?_)
  | (with_reducible refine Zk.z_U ?_)
  | (with_reducible refine Zk.z_eqI ?_)
  | (with_reducible refine Zk.z_neI ?_)
  | (with_reducible refine Zk.z_eqB ?_)
  | (with_reducible refine Zk.z_neB ?_)
  | (with_reducible refine Zk.z_isB ?_)
  | (with_reducible refine Zk.z_notB ?_)
  | (with_reducible refine Zk.z_nil ?_)
  | (with_reducible refine Zk.z_cons ?_)
  | (with_reducible refine Zk.z_tup ?_)
  | (with_reducible refine Zk.z_lst ?_)
  | (with_reducible refine Zk.z_call ?_)
  | (with_reducible refine Zk.z_cb ?_)
  | (with_reducible refine Zk.z_orV ?_)
  | (with_reducible refine Zk.z_notV ?_)
  | (with_reducible refine Zk.z_ebl ?_)
  | (with_reducible refine Zk.z_eint ?_)
  | (with_reducible refine Zk.z_test ?_)
  | (with_reducible refine Zk.z_B ?_)
  | (with_reducible refine Zk.z_or ?_)
  | (with_reducible refine Zk.z_not ?_)
  | (with_reducible refine Zk.z_yes ?_)
  | (with_reducible refine Zk.z_seq ?_)
  | (with_reducible refine Zk.z_next ?_)
  | (with_reducible refine Zk.z_asg ?_)
  | (with_reducible refine Zk.z_name ?_)
  | (with_reducible refine Zk.z_ret ?_)
  | (with_reducible refine Zk.z_retN ?_)
  | (with_reducible refine Zk.z_drop ?_)
  | (with_reducible refine Zk.z_if ?_)
  | (with_reducible refine Zk.z_par ?_)
  | (with_reducible refine Zk.z_par2 ?_)
  | (with_reducible refine Zk.z_gSub ?_)
  | (with_reducible refine Zk.z_gCons ?_)
  | (with_reducible refine Zk.z_gNil ?_)
  | ((with_reducible refine Zk.z_pow ?zh ?_); (case zh => exact ⟨by decide, by decide, by decide⟩))
  | ((with_reducible refine Zk.z_modN ?zh ?_); (case zh => first | decide | omega))
  | (with_reducible refine Zk.z_for ?_)
  | (with_reducible refine Zk.z_rng1 ?_)
  | (with_reducible refine Zk.z_iL ?_)
  | (with_reducible refine Zk.z_iT ?_)
  | (with_reducible refine Zk.z_bm ?_)
  | (with_reducible refine Zk.z_bits ?_)
  | (with_reducible refine Zk.z_sl ?_)
  | (with_reducible refine Zk.z_noPart ?_)
  | (with_reducible refine Zk.z_part ?_)
  | (with_reducible refine Zk.z_chain ?_)
  | (with_reducible refine Zk.z_abs ?_)
  | (with_reducible refine Zk.z_intB ?_)
  | (with_reducible refine L2.iteT ?_)
  | (with_reducible refine L2.iteF ?_)
  | ((with_reducible refine Zk.z_itT ?zh ?_); (case zh => exact rfl))
  | ((with_reducible refine Zk.z_itF ?zh ?_); (case zh => exact rfl)))
local macro_rules | `(tactic| walk_at "z") => `(tactic| first
  | (walk_at "z0")
  | (with_reducible refine Zk.z_andV ?_)
  | (with_reducible refine Zk.z_and ?_)
  | (with_reducible refine Zk.z_orT ?_))
local macro_rules | `(tactic| walk_at "zy") => `(tactic| repeat (walk_at "z0"))
local macro_rules | `(tactic| walk_at "zz") => `(tactic| repeat (walk_at "z"))
local macro_rules | `(tactic| walk_at "lk") => `(tactic| first
  | assumption
  | ((refine Zk.same_get (by assumption) ?_); walk_at "lk")
  | ((refine Zk.Dr.tup (by assumption) ?_); walk_at "lk"))
namespace Zl
open PySem PySem.Spec PyProof.Rows L2 Zk
def topS (i : Nat) : Stmt := PySem.Challenge.pw_sumtold_k06_rows.main.body.getD i (.Pass ⟨0, 0, 0, 0⟩)
abbrev s_part : Stmt := topS 1
theorem sc_part : FnScope ["num", "e", "twos", "dropped"] ["num", "e"] (defScope s_part) := ⟨rfl, rfl, rfl, by decide +kernel, rfl, by decide +kernel, by decide +kernel⟩
abbrev s_part_plus : Stmt := topS 2
theorem sc_part_plus : FnScope ["one", "other", "e"] ["one", "other"] (defScope s_part_plus) := ⟨rfl, rfl, rfl, by decide +kernel, rfl, by decide +kernel, by decide +kernel⟩
abbrev s_part_less : Stmt := topS 3
theorem sc_part_less : FnScope ["one", "other"] ["one", "other"] (defScope s_part_less) := ⟨rfl, rfl, rfl, by decide +kernel, rfl, by decide +kernel, by decide +kernel⟩
abbrev s_own_row : Stmt := topS 4
theorem sc_own_row : FnScope ["numbers", "number"] ["numbers"] (defScope s_own_row) := ⟨rfl, rfl, rfl, by decide +kernel, rfl, by decide +kernel, by decide +kernel⟩
abbrev s_zero_row : Stmt := topS 5
theorem sc_zero_row : FnScope ["many"] ["many"] (defScope s_zero_row) := ⟨rfl, rfl, rfl, by decide +kernel, rfl, by decide +kernel, by decide +kernel⟩
abbrev s_row_plus : Stmt := topS 6
theorem sc_row_plus : FnScope ["one", "other", "mine", "yours"] ["one", "other"] (defScope s_row_plus) := ⟨rfl, rfl, rfl, by decide +kernel, rfl, by decide +kernel, by decide +kernel⟩
abbrev s_row_less : Stmt := topS 7
theorem sc_row_less : FnScope ["one", "other", "mine", "yours"] ["one", "other"] (defScope s_row_less) := ⟨rfl, rfl, rfl, by decide +kernel, rfl, by decide +kernel, by decide +kernel⟩
abbrev s_row_halved : Stmt := topS 8
theorem sc_row_halved : FnScope ["row", "c", "num", "e"] ["row", "c"] (defScope s_row_halved) := ⟨rfl, rfl, rfl, by decide +kernel, rfl, by decide +kernel, by decide +kernel⟩
abbrev s_row_times : Stmt := topS 9
theorem sc_row_times : FnScope ["row", "many", "num", "e"] ["row", "many"] (defScope s_row_times) := ⟨rfl, rfl, rfl, by decide +kernel, rfl, by decide +kernel, by decide +kernel⟩
abbrev s__law_cell_at : Stmt := topS 11
theorem sc__law_cell_at : FnScope ["_law_script", "_law_k"] ["_law_script", "_law_k"] (defScope s__law_cell_at) := ⟨rfl, rfl, rfl, by decide +kernel, rfl, by decide +kernel, by decide +kernel⟩
abbrev s__law_begin : Stmt := topS 12
theorem sc__law_begin : FnScope ["_law_cell"] ["_law_cell"] (defScope s__law_begin) := ⟨rfl, rfl, rfl, by decide +kernel, rfl, by decide +kernel, by decide +kernel⟩
abbrev s__law_draw : Stmt := topS 13
theorem sc__law_draw : FnScope ["_law_source", "_law_most", "_law_found", "_law_number"] ["_law_source", "_law_most"] (defScope s__law_draw) := ⟨rfl, rfl, rfl, by decide +kernel, rfl, by decide +kernel, by decide +kernel⟩
abbrev s__law_far : Stmt := topS 14
theorem sc__law_far : FnScope ["_law_source", "_law_way", "_law_small", "_law_great", "_law_k", "_law_twos"] ["_law_source"] (defScope s__law_far) := ⟨rfl, rfl, rfl, by decide +kernel, rfl, by decide +kernel, by decide +kernel⟩
abbrev s__law_part : Stmt := topS 15
theorem sc__law_part : FnScope ["_law_num", "_law_e"] ["_law_num", "_law_e"] (defScope s__law_part) := ⟨rfl, rfl, rfl, by decide +kernel, rfl, by decide +kernel, by decide +kernel⟩
abbrev s__law_joined : Stmt := topS 16
theorem sc__law_joined : FnScope ["_law_one", "_law_other", "_law_sign", "_law_found", "_law_k", "_law_e", "_law_mine", "_law_more"] ["_law_one", "_law_other", "_law_sign"] (defScope s__law_joined) := ⟨rfl, rfl, rfl, by decide +kernel, rfl, by decide +kernel, by decide +kernel⟩
abbrev s__law_row : Stmt := topS 17
theorem sc__law_row : FnScope ["_law_source", "_law_many", "_law_found", "_law_k", "_law_drawn"] ["_law_source", "_law_many"] (defScope s__law_row) := ⟨rfl, rfl, rfl, by decide +kernel, rfl, by decide +kernel, by decide +kernel⟩
abbrev s_law : Stmt := topS 18
theorem sc_law : FnScope ["_law_script", "_law_cell", "_law_source", "_law_many", "_law_one", "_law_other", "_law_turn", "_law_c", "_law_often", "_law_numbers", "_law_nought", "_law_num", "_law_e", "_law_k", "_law_number"] ["_law_script"] (defScope s_law) := ⟨rfl, rfl, rfl, by decide +kernel, rfl, by decide +kernel, by decide +kernel⟩
section
variable {P : Program} {w : World} {K : PySem.W.Frag} {mg : Str → Option Value} {base : Heap}
def spPart : Sp := fun vs H Q _ => ∃ (n : Int) (e : Nat), vs = [.int n, .int (e : Int)] ∧ ∀ r H', H r = none → Same H H' → H' r = some (.tup [.int (partF e n).1, .int ((partF e n).2 : Int)]) → Q (.ref r) H'
theorem ok_part {f : Addr} {fd : FuncData} (F : FnP K "part" s_part f fd) (m_min : mg "min" = none) : FnOk P w K mg base CX0 1 f fd ["num", "e"] spPart := by
  refine F.ok sc_part (fun vs H Q E h => ?_) (fun cdv A outer s H vs Q E hr h => ?_)
  · obtain ⟨n, e, rfl, _⟩ := h; rfl
  obtain ⟨n, e, rfl, k⟩ := h
  refine ⟨_, PSs.nox (pss_cons (ps_if (pt_cmpR op_eq (pv 0) pe_int (nomark _))
    (pss_one (ps_ret (pe_tup (pa_cons pe_int (pa_cons pe_int pa_nil)))))
    pss_nil)
  (pss_cons (ps_set (i := 2) sc_part.nd rfl (.inl rfl) (pe_op op_sub (pe_bits (pe_op op_and (pv 0) (pe_un un_neg (pv 0)))) pe_int))
  (pss_cons (ps_set (i := 3) sc_part.nd rfl (.inl rfl) (pe_callB (call_min2E rfl) (by rfl) m_min (by decide +kernel) (pa_cons (pv 2) (pa_cons (pv 1) pa_nil))))
  (pss_one (ps_ret (pe_tup (pa_cons (pe_op op_shrA (pv 0) (pv 3)) (pa_cons (pe_op op_sub (pv 1) (pv 3)) pa_nil)))))))), ?_⟩
  walk_at "zz"
  refine z_ite (fun h => ?_) (fun h => ?_)
  · walk_at "zz"
    rw [h, partF_zero] at k
    exact z_new (by simp) k
  · walk_at "zz"
    obtain ⟨v, m, e1, e2, e3⟩ := bits_low h
    rw [e3, show (((v + 1 : Nat) : Int) - 1) = (v : Int) by omega]
    refine z_min2 ?_
    walk_at "zz"
    refine z_shrA (by omega) ?_
    walk_at "zz"
    have ep := partF_val e v m e2
    rw [← e1] at ep
    rw [ep] at k
    rw [Int.toNat_natCast, show (e : Int) - ((min v e : Nat) : Int) = ((e - min v e : Nat) : Int) by omega]
    exact z_new (by simp) k
/-- a part at an address -/
structure PtA (H : Hp) (p : Addr) (x : Int) (e : Nat) (m : Nat) : Prop where
  h : H p = some (.tup [.int x, .int (e : Int)])
  is : e = 0 ∨ x % 2 = 1
  bx : x.natAbs < 2 ^ m
  be : e ≤ m
theorem PtA.same {H H' : Hp} {p : Addr} {x : Int} {e m : Nat} (a : PtA H p x e m) (s : Same H H') : PtA H' p x e m := ⟨s _ _ a.h, a.is, a.bx, a.be⟩
theorem PtA.dr {s : Addr} {H H' : Hp} {p : Addr} {x : Int} {e m : Nat} (a : PtA H p x e m) (d : Dr s H H') : PtA H' p x e m := ⟨d.tup a.h, a.is, a.bx, a.be⟩
theorem sh_nat {a b : Nat} (h : b ≤ a) : ((a : Nat) : Int) - ((b : Nat) : Int) = ((a - b : Nat) : Int) := by omega
theorem shl_b {x : Int} {m k : Nat} (h : x.natAbs < 2 ^ m) : (x * 2 ^ k).natAbs < 2 ^ (m + k) := by
  rw [Int.natAbs_mul, Int.natAbs_pow, Nat.pow_add]
  exact Nat.mul_lt_mul_of_pos_right h (Nat.pow_pos (by decide))
def spPPlus : Sp := fun vs H Q _ => ∃ (p q : Addr) (a b : Int) (d e m : Nat), vs = [.ref p, .ref q] ∧ m ≤ 10000 ∧ H p = some (.tup [.int a, .int (d : Int)]) ∧ H q = some (.tup [.int b, .int (e : Int)]) ∧ a.natAbs < 2 ^ m ∧ b.natAbs < 2 ^ m ∧ d ≤ m ∧ e ≤ m ∧
  ∀ r H', H r = none → Same H H' → H' r = some (.tup [.int (partF (d + e) (a * 2 ^ e + b * 2 ^ d)).1, .int ((partF (d + e) (a * 2 ^ e + b * 2 ^ d)).2 : Int)]) → Q (.ref r) H'
theorem ok_part_plus {f : Addr} {fd : FuncData} (F : FnP K "part_plus" s_part_plus f fd) (m_max : mg "max" = none) (h_part : Has P w K mg base 1 "part" ["num", "e"] spPart) : FnOk P w K mg base CX0 2 f fd ["one", "other"] spPPlus := by
  refine F.ok sc_part_plus (fun vs H Q E h => ?_) (fun cdv A outer s H vs Q E hr h => ?_)
  · obtain ⟨p, q, a, b, d, e, m, rfl, _⟩ := h; rfl
  obtain ⟨p, q, a, b, d, e, m, rfl, hm, hp, hq, ba, bb, bd, be, k⟩ := h
  refine ⟨_, PSs.nox (pss_cons (ps_set (i := 2) sc_part_plus.nd rfl (.inl rfl) (pe_callB (call_max2E rfl) (by rfl) m_max (by decide +kernel) (pa_cons (pe_ix (ix_tupE K) (pv 0) pe_int (fun _ _ => rfl)) (pa_cons (pe_ix (ix_tupE K) (pv 1) pe_int (fun _ _ => rfl)) pa_nil))))
  (pss_one (ps_ret (pe_callH h_part (hr.mono (by decide)) (by rfl) (pa_cons (pe_op op_add (pe_op op_shlA (pe_ix (ix_tupE K) (pv 0) pe_int (fun _ _ => rfl)) (pe_op op_sub (pv 2) (pe_ix (ix_tupE K) (pv 0) pe_int (fun _ _ => rfl)))) (pe_op op_shlA (pe_ix (ix_tupE K) (pv 1) pe_int (fun _ _ => rfl)) (pe_op op_sub (pv 2) (pe_ix (ix_tupE K) (pv 1) pe_int (fun _ _ => rfl))))) (pa_cons (pv 2) pa_nil)))))), ?_⟩
  walk_at "zz"
  refine z_ixT (SqT.of hp) (v := .int (d : Int)) rfl ?_
  walk_at "zz"
  refine z_ixT (SqT.of hq) (v := .int (e : Int)) rfl ?_
  walk_at "zz"
  refine z_max2 ?_
  walk_at "zz"
  refine z_ixT (SqT.of hp) (v := .int a) rfl ?_
  walk_at "zz"
  refine z_ixT (SqT.of hp) (v := .int (d : Int)) rfl ?_
  walk_at "zz"
  rw [sh_nat (show d ≤ max d e by omega)]
  refine z_shlA (shl_ok ba (by omega)) ?_
  walk_at "zz"
  refine z_ixT (SqT.of hq) (v := .int b) rfl ?_
  walk_at "zz"
  refine z_ixT (SqT.of hq) (v := .int (e : Int)) rfl ?_
  walk_at "zz"
  rw [sh_nat (show e ≤ max d e by omega)]
  refine z_shlA (shl_ok bb (by omega)) ?_
  walk_at "zz"
  rw [Int.toNat_natCast, Int.toNat_natCast]
  refine ⟨_, max d e, rfl, ?_⟩
  rw [sum_shift]
  exact k
def spPLess : Sp := fun vs H Q _ => ∃ (p q : Addr) (a b : Int) (d e m : Nat), vs = [.ref p, .ref q] ∧ m ≤ 10000 ∧ H p = some (.tup [.int a, .int (d : Int)]) ∧ H q = some (.tup [.int b, .int (e : Int)]) ∧ a.natAbs < 2 ^ m ∧ b.natAbs < 2 ^ m ∧ d ≤ m ∧ e ≤ m ∧
  ∀ r H', H r = none → Same H H' → H' r = some (.tup [.int (partF (d + e) (a * 2 ^ e - b * 2 ^ d)).1, .int ((partF (d + e) (a * 2 ^ e - b * 2 ^ d)).2 : Int)]) → Q (.ref r) H'
theorem ok_part_less {f : Addr} {fd : FuncData} (F : FnP K "part_less" s_part_less f fd) (h_part_plus : Has P w K mg base 2 "part_plus" ["one", "other"] spPPlus) : FnOk P w K mg base CX0 3 f fd ["one", "other"] spPLess := by
  refine F.ok sc_part_less (fun vs H Q E h => ?_) (fun cdv A outer s H vs Q E hr h => ?_)
  · obtain ⟨p, q, a, b, d, e, m, rfl, _⟩ := h; rfl
  obtain ⟨p, q, a, b, d, e, m, rfl, hm, hp, hq, ba, bb, bd, be, k⟩ := h
  refine ⟨_, PSs.nox (pss_one (ps_ret (pe_callH h_part_plus (hr.mono (by decide)) (by rfl) (pa_cons (pv 0) (pa_cons (pe_tup (pa_cons (pe_un un_neg (pe_ix (ix_tupE K) (pv 1) pe_int (fun _ _ => rfl))) (pa_cons (pe_ix (ix_tupE K) (pv 1) pe_int (fun _ _ => rfl)) pa_nil))) pa_nil))))), ?_⟩
  walk_at "zz"
  refine z_ixT (SqT.of hq) (v := .int b) rfl ?_
  walk_at "zz"
  refine z_ixT (SqT.of hq) (v := .int (e : Int)) rfl ?_
  walk_at "zz"
  refine z_new (by simp) (fun t H1 nt s1 ht => ?_)
  walk_at "zz"
  refine ⟨p, t, a, -b, d, e, m, rfl, hm, s1 _ _ hp, ht, ba, by omega, bd, be, fun r H2 nr s2 hr => ?_⟩
  rw [Int.neg_mul, ← Int.sub_eq_add_neg] at hr
  exact k r H2 (s1.free nr) (s1.trans s2) hr
def ownF (n : Int) : Zk.Pt := (n, 0)
def spOwnRow (Pt : Addr) : Sp := fun vs H Q _ => ∃ (p : Addr) (ns : List Int), vs = [.ref p] ∧ H p = some (.tup (ns.map V.int)) ∧ ns.length ≤ 100 ∧ GxR.TabG H Pt ∧ ∀ r H', Kt Pt H H' → RowA H' r (ns.map ownF ++ [(1, 0)]) → Q (.ref r) H'
theorem ok_own_row {f ca Pt : Addr} {fd : FuncData} (F : FnP K "own_row" s_own_row f fd) (hcd : fd.code = .ref ca) (TB : GxR.TabB base mg ca Pt) (m_tuple : mg "tuple" = none) : FnOk P w K mg base CX0 7 f fd ["numbers"] (spOwnRow Pt) := by
  refine okC F sc_own_row (fun vs H Q E h => ?_) (fun A outer s H vs Q E hr h => ?_)
  · obtain ⟨p, ns, rfl, _⟩ := h; rfl
  obtain ⟨p, ns, rfl, hp, hl1, hT, qq⟩ := h
  refine ⟨_, PSs.nox (pss_one (ps_ret (pe_op (op_catE K) (pe_tupG (k := 0) (own := [("number", 1)]) (g := gName 1) (hr.mono (by decide)) (by rfl) m_tuple TB hcd (by rfl) sc_own_row.nd (pi_tupE K (pv 0)) (blkOk_by (own := [("number", 1)]) (N := ["numbers", "number"]) (sc := defScope s_own_row) (by decide +kernel)) ⟨rfl, by decide +kernel, rfl⟩ (fun _ _ _ _ _ _ _ hr => (pg_name (i := 1) sc_own_row.nd rfl (.inl rfl))) (fun _ _ _ _ _ _ _ hr => pts_nil) (fun _ _ _ _ _ _ _ hr => (pe_tup (pa_cons (pv 1) (pa_cons pe_int pa_nil)))) (fun _ => rfl)) (pe_tup (pa_cons (pe_tup (pa_cons pe_int (pa_cons pe_int pa_nil))) pa_nil))))), ?_⟩
  walk_at "zz"
  refine z_tupG ?_
  walk_at "zz"
  refine ⟨p, rfl, ⟨_, SqT.of hp⟩, hT, fun H2 T2 D nD => ?_⟩
  have nD0 : H D = none := tab_back T2 nD
  refine tup_tup (xs := ns.map V.int) (fun i H' => Kd Pt D H H' ∧ ∃ acc, H' D = some (.lst acc) ∧ PtsAll H' acc ((ns.map ownF).take i)) ⟨Kd.start T2 nD, [], upd_same, trivial⟩ (fun i H' h => SqT.of (h.1.get nD0 hT hp (fun _ z => by cases z))) ?_ ?_
  · rintro i x H3 hx ⟨k3, acc, hD, pa⟩
    rw [List.getElem?_map] at hx
    obtain ⟨n, hn, rfl⟩ := Option.map_eq_some_iff.mp hx
    refine ⟨rfl, ?_⟩
    walk_at "zz"
    refine z_new (by simp) (fun r H4 nr e4 hr4 => ?_)
    have hD4 := e4 _ _ hD
    have hlen := pa.len
    have hi : i < ns.length := (List.getElem?_eq_some_iff.mp hn).1
    refine ⟨acc, hD4, small1000 (by rw [hlen, List.length_take]; omega), (k3.same e4).upd hD4, _, upd_same, ?_⟩
    have ez : (ns.map ownF)[i]? = some (ownF n) := by
      rw [List.getElem?_map, hn]
      rfl
    rw [List.take_add_one, ez]
    exact PtsAll.updL hD4 ((pa.kp (Kp.of_same e4)).snoc ⟨r, rfl, hr4⟩)
  · rintro H3 ⟨k3, acc, hD, pa⟩
    refine ⟨acc, hD, fun r nr => ?_⟩
    have e3 : Same H3 (upd H3 r (.tup acc)) := same_upd nr
    rw [List.take_of_length_le (by rw [List.length_map, List.length_map]; omega)] at pa
    have hlen := pa.len
    rw [List.length_map] at hlen
    walk_at "zz"
    refine z_new (by simp) (fun r5 H5 n5 e5 h5 => ?_)
    walk_at "zz"
    refine z_new (by simp) (fun r6 H6 n6 e6 h6 => ?_)
    have e46 := e5.trans e6
    refine z_catT (e46 _ _ (show upd H3 r (.tup acc) r = some (.tup acc) from upd_same)) h6 (by simp; omega) (fun r7 H7 e7 h7 => ?_)
    have e37 := e3.trans (e46.trans e7)
    exact qq r7 _ ((k3.kt nD0).trans (Kt.of_same e37 k3.tab)) ⟨_, h7, (pa.kp (Kp.of_same e37)).app ⟨⟨r5, rfl, e7 _ _ (e6 _ _ h5)⟩, trivial⟩⟩
def spZero (K : PySem.W.Frag) : Sp := fun vs H Q _ => ∃ n : Nat, vs = [.int (n : Int)] ∧ 1 ≤ n ∧ n ≤ 100 ∧ ∀ r H', Same H H' → RowA H' r (List.replicate (n + 1) ((0, 0) : Zk.Pt)) → Q (.ref r) H'
theorem ok_zero_row {f : Addr} {fd : FuncData} (F : FnP K "zero_row" s_zero_row f fd) : FnOk P w K mg base CX0 1 f fd ["many"] (spZero K) := by
  refine F.ok sc_zero_row (fun vs H Q E h => ?_) (fun cdv A outer s H vs Q E hr h => ?_)
  · obtain ⟨n, rfl, _⟩ := h; rfl
  obtain ⟨n, rfl, h1, h2, q⟩ := h
  refine ⟨_, PSs.nox (pss_one (ps_ret (pe_op (op_repTE K) (pe_tup (pa_cons (pe_tup (pa_cons pe_int (pa_cons pe_int pa_nil))) pa_nil)) (pe_op op_add (pv 0) pe_int)))), ?_⟩
  walk_at "zz"
  refine z_new (by simp) (fun p1 H1 n1 e1 hh1 => ?_)
  walk_at "zz"
  refine z_new (by simp) (fun p2 H2 n2 e2 hh2 => ?_)
  walk_at "zz"
  refine z_repT1 hh2 (by omega) (by omega) (fun p3 H3 n3 e3 hh3 => ?_)
  rw [show ((n : Int) + 1).toNat = n + 1 by omega] at hh3
  exact q p3 H3 (e1.trans (e2.trans e3)) ⟨_, hh3, PtsAll.rep ⟨p1, rfl, e3 _ _ (e2 _ _ hh1)⟩ (n + 1)⟩
def spRow2 (Pt : Addr) (G : Zk.Pt → Zk.Pt → Zk.Pt) : Sp := fun vs H Q _ => ∃ (p q : Addr) (ds es : List Zk.Pt) (m : Nat), vs = [.ref p, .ref q] ∧ m ≤ 10000 ∧ RowA H p ds ∧ RowA H q es ∧ ds.length = es.length ∧ ds.length ≤ 100 ∧ Bd m ds ∧ Bd m es ∧ GxR.TabG H Pt ∧
  ∀ r H', Kt Pt H H' → RowA H' r (List.zipWith G ds es) → Q (.ref r) H'
theorem ok_row_plus {f ca Pt : Addr} {fd : FuncData} (F : FnP K "row_plus" s_row_plus f fd) (hcd : fd.code = .ref ca) (TB : GxR.TabB base mg ca Pt) (m_tuple : mg "tuple" = none) (m_zip : mg "zip" = none) (h_part_plus : Has P w K mg base 2 "part_plus" ["one", "other"] spPPlus) : FnOk P w K mg base CX0 9 f fd ["one", "other"] (spRow2 Pt plusF) := by
  refine okC F sc_row_plus (fun vs H Q E h => ?_) (fun A outer s H vs Q E hr h => ?_)
  · obtain ⟨p, q, ds, es, m, rfl, _⟩ := h; rfl
  obtain ⟨p, q, ds, es, m, rfl, hm, ⟨xs, hp, ax⟩, ⟨ys, hq, ay⟩, hl, hl1, b1, b2, hT, qq⟩ := h
  refine ⟨_, PSs.nox (pss_one (ps_ret (pe_tupG (k := 2) (own := [("mine", 2), ("yours", 3)]) (g := gTup K 2 (gCons (gName 2) (gCons (gName 3) gNil))) (hr.mono (by decide)) (by rfl) m_tuple TB hcd (by rfl) sc_row_plus.nd (pi_zipE K (by rfl) m_zip (pa_cons (pv 0) (pa_cons (pv 1) pa_nil))) (blkOk_by (own := [("mine", 2), ("yours", 3)]) (N := ["one", "other", "mine", "yours"]) (sc := defScope s_row_plus) (by decide +kernel)) ⟨rfl, by decide +kernel, rfl⟩ (fun _ _ _ _ _ _ _ hr => (pg_tup rfl (pgs_cons (pg_name (i := 2) sc_row_plus.nd rfl (.inl rfl)) (pgs_cons (pg_name (i := 3) sc_row_plus.nd rfl (.inl rfl)) pgs_nil)))) (fun _ _ _ _ _ _ _ hr => pts_nil) (fun _ _ _ _ _ _ _ hr => (pe_callH h_part_plus (hr.mono (by decide)) (by rfl) (pa_cons (pv 2) (pa_cons (pv 3) pa_nil)))) (fun _ => rfl)))), ?_⟩
  walk_at "zz"
  refine z_tupG (z_zipA ?_)
  walk_at "zz"
  refine ⟨p, q, xs, ys, rfl, .inr ⟨SqT.of hp, SqT.of hq, hT, fun H2 T2 D nD => ?_⟩⟩
  have lx := ax.len
  have ly := ay.len
  have nD0 : H D = none := tab_back T2 nD
  refine tup_zip (xs := xs) (ys := ys) (by omega) (fun i H' => Kd Pt D H H' ∧ ∃ acc, H' D = some (.lst acc) ∧ PtsAll H' acc ((List.zipWith plusF ds es).take i)) ⟨Kd.start T2 nD, [], upd_same, trivial⟩ (fun i H' h => ⟨SqT.of (h.1.get nD0 hT hp (fun _ z => by cases z)), SqT.of (h.1.get nD0 hT hq (fun _ z => by cases z))⟩) ?_ ?_
  · rintro i x y T H3 hx hy ⟨k3, acc, hD, pa⟩ nT
    obtain ⟨d, hd, u, rfl, hu⟩ := ax.get hx
    obtain ⟨e, he, v, rfl, hv⟩ := ay.get hy
    have e3 : Same H3 (upd H3 T (.tup [.ref u, .ref v])) := same_upd nT
    refine z_gTup (SqT.of upd_same) rfl ?_
    walk_at "zz"
    refine ⟨rfl, ?_⟩
    walk_at "zz"
    have bd := b1 d (List.mem_of_getElem? hd)
    have be := b2 e (List.mem_of_getElem? he)
    refine ⟨u, v, d.1, e.1, d.2, e.2, m, rfl, hm, e3 _ _ (k3.get nD0 hT hu (fun _ z => by cases z)), e3 _ _ (k3.get nD0 hT hv (fun _ z => by cases z)), bd.1, be.1, bd.2, be.2, fun r H4 nr e4 hr4 => ?_⟩
    have e34 := e3.trans e4
    have hD4 := e34 _ _ hD
    have hlen := pa.len
    have hi : i < xs.length := (List.getElem?_eq_some_iff.mp hx).1
    refine ⟨acc, hD4, small1000 (by rw [hlen, List.length_take]; omega), (k3.same e34).upd hD4, _, upd_same, ?_⟩
    have ez : (List.zipWith plusF ds es)[i]? = some (plusF d e) := by
      rw [List.getElem?_zipWith, hd, he]
    rw [List.take_add_one, ez]
    exact PtsAll.updL hD4 ((pa.kp (Kp.of_same e34)).snoc ⟨r, rfl, hr4⟩)
  · rintro H3 ⟨k3, acc, hD, pa⟩
    refine ⟨acc, hD, fun r nr => ?_⟩
    have e3 : Same H3 (upd H3 r (.tup acc)) := same_upd nr
    rw [List.take_of_length_le (by rw [List.length_zipWith]; omega)] at pa
    exact qq r _ ((k3.kt nD0).trans (Kt.of_same e3 k3.tab)) ⟨acc, upd_same, pa.kp (Kp.of_same e3)⟩
theorem ok_row_less {f ca Pt : Addr} {fd : FuncData} (F : FnP K "row_less" s_row_less f fd) (hcd : fd.code = .ref ca) (TB : GxR.TabB base mg ca Pt) (m_tuple : mg "tuple" = none) (m_zip : mg "zip" = none) (h_part_less : Has P w K mg base 3 "part_less" ["one", "other"] spPLess) : FnOk P w K mg base CX0 10 f fd ["one", "other"] (spRow2 Pt lessF) := by
  refine okC F sc_row_less (fun vs H Q E h => ?_) (fun A outer s H vs Q E hr h => ?_)
  · obtain ⟨p, q, ds, es, m, rfl, _⟩ := h; rfl
  obtain ⟨p, q, ds, es, m, rfl, hm, ⟨xs, hp, ax⟩, ⟨ys, hq, ay⟩, hl, hl1, b1, b2, hT, qq⟩ := h
  refine ⟨_, PSs.nox (pss_one (ps_ret (pe_tupG (k := 3) (own := [("mine", 2), ("yours", 3)]) (g := gTup K 2 (gCons (gName 2) (gCons (gName 3) gNil))) (hr.mono (by decide)) (by rfl) m_tuple TB hcd (by rfl) sc_row_less.nd (pi_zipE K (by rfl) m_zip (pa_cons (pv 0) (pa_cons (pv 1) pa_nil))) (blkOk_by (own := [("mine", 2), ("yours", 3)]) (N := ["one", "other", "mine", "yours"]) (sc := defScope s_row_less) (by decide +kernel)) ⟨rfl, by decide +kernel, rfl⟩ (fun _ _ _ _ _ _ _ hr => (pg_tup rfl (pgs_cons (pg_name (i := 2) sc_row_less.nd rfl (.inl rfl)) (pgs_cons (pg_name (i := 3) sc_row_less.nd rfl (.inl rfl)) pgs_nil)))) (fun _ _ _ _ _ _ _ hr => pts_nil) (fun _ _ _ _ _ _ _ hr => (pe_callH h_part_less (hr.mono (by decide)) (by rfl) (pa_cons (pv 2) (pa_cons (pv 3) pa_nil)))) (fun _ => rfl)))), ?_⟩
  walk_at "zz"
  refine z_tupG (z_zipA ?_)
  walk_at "zz"
  refine ⟨p, q, xs, ys, rfl, .inr ⟨SqT.of hp, SqT.of hq, hT, fun H2 T2 D nD => ?_⟩⟩
  have lx := ax.len
  have ly := ay.len
  have nD0 : H D = none := tab_back T2 nD
  refine tup_zip (xs := xs) (ys := ys) (by omega) (fun i H' => Kd Pt D H H' ∧ ∃ acc, H' D = some (.lst acc) ∧ PtsAll H' acc ((List.zipWith lessF ds es).take i)) ⟨Kd.start T2 nD, [], upd_same, trivial⟩ (fun i H' h => ⟨SqT.of (h.1.get nD0 hT hp (fun _ z => by cases z)), SqT.of (h.1.get nD0 hT hq (fun _ z => by cases z))⟩) ?_ ?_
  · rintro i x y T H3 hx hy ⟨k3, acc, hD, pa⟩ nT
    obtain ⟨d, hd, u, rfl, hu⟩ := ax.get hx
    obtain ⟨e, he, v, rfl, hv⟩ := ay.get hy
    have e3 : Same H3 (upd H3 T (.tup [.ref u, .ref v])) := same_upd nT
    refine z_gTup (SqT.of upd_same) rfl ?_
    walk_at "zz"
    refine ⟨rfl, ?_⟩
    walk_at "zz"
    have bd := b1 d (List.mem_of_getElem? hd)
    have be := b2 e (List.mem_of_getElem? he)
    refine ⟨u, v, d.1, e.1, d.2, e.2, m, rfl, hm, e3 _ _ (k3.get nD0 hT hu (fun _ z => by cases z)), e3 _ _ (k3.get nD0 hT hv (fun _ z => by cases z)), bd.1, be.1, bd.2, be.2, fun r H4 nr e4 hr4 => ?_⟩
    have e34 := e3.trans e4
    have hD4 := e34 _ _ hD
    have hlen := pa.len
    have hi : i < xs.length := (List.getElem?_eq_some_iff.mp hx).1
    refine ⟨acc, hD4, small1000 (by rw [hlen, List.length_take]; omega), (k3.same e34).upd hD4, _, upd_same, ?_⟩
    have ez : (List.zipWith lessF ds es)[i]? = some (lessF d e) := by
      rw [List.getElem?_zipWith, hd, he]
    rw [List.take_add_one, ez]
    exact PtsAll.updL hD4 ((pa.kp (Kp.of_same e34)).snoc ⟨r, rfl, hr4⟩)
  · rintro H3 ⟨k3, acc, hD, pa⟩
    refine ⟨acc, hD, fun r nr => ?_⟩
    have e3 : Same H3 (upd H3 r (.tup acc)) := same_upd nr
    rw [List.take_of_length_le (by rw [List.length_zipWith]; omega)] at pa
    exact qq r _ ((k3.kt nD0).trans (Kt.of_same e3 k3.tab)) ⟨acc, upd_same, pa.kp (Kp.of_same e3)⟩
def halfF (c : Nat) (d : Zk.Pt) : Zk.Pt := partF (d.2 + c) d.1
def spHalved (Pt : Addr) : Sp := fun vs H Q _ => ∃ (p : Addr) (ds : List Zk.Pt) (c : Nat), vs = [.ref p, .int (c : Int)] ∧ RowA H p ds ∧ ds.length ≤ 100 ∧ GxR.TabG H Pt ∧ ∀ r H', Kt Pt H H' → RowA H' r (ds.map (halfF c)) → Q (.ref r) H'
theorem ok_row_halved {f ca Pt : Addr} {fd : FuncData} (F : FnP K "row_halved" s_row_halved f fd) (hcd : fd.code = .ref ca) (TB : GxR.TabB base mg ca Pt) (m_tuple : mg "tuple" = none) (h_part : Has P w K mg base 1 "part" ["num", "e"] spPart) : FnOk P w K mg base CX0 8 f fd ["row", "c"] (spHalved Pt) := by
  refine okC F sc_row_halved (fun vs H Q E h => ?_) (fun A outer s H vs Q E hr h => ?_)
  · obtain ⟨p, ds, c, rfl, _⟩ := h; rfl
  obtain ⟨p, ds, c, rfl, ⟨xs, hp, ax⟩, hl1, hT, qq⟩ := h
  refine ⟨_, PSs.nox (pss_one (ps_ret (pe_tupG (k := 1) (own := [("num", 2), ("e", 3)]) (g := gTup K 2 (gCons (gName 2) (gCons (gName 3) gNil))) (hr.mono (by decide)) (by rfl) m_tuple TB hcd (by rfl) sc_row_halved.nd (pi_tupE K (pv 0)) (blkOk_by (own := [("num", 2), ("e", 3)]) (N := ["row", "c", "num", "e"]) (sc := defScope s_row_halved) (by decide +kernel)) ⟨rfl, by decide +kernel, rfl⟩ (fun _ _ _ _ _ _ _ hr => (pg_tup rfl (pgs_cons (pg_name (i := 2) sc_row_halved.nd rfl (.inl rfl)) (pgs_cons (pg_name (i := 3) sc_row_halved.nd rfl (.inl rfl)) pgs_nil)))) (fun _ _ _ _ _ _ _ hr => pts_nil) (fun _ _ _ _ _ _ _ hr => (pe_callH h_part (hr.mono (by decide)) (by rfl) (pa_cons (pv 2) (pa_cons (pe_op op_add (pv 3) (pv 1)) pa_nil)))) (fun _ => rfl)))), ?_⟩
  walk_at "zz"
  refine z_tupG ?_
  walk_at "zz"
  refine ⟨p, rfl, ⟨_, SqT.of hp⟩, hT, fun H2 T2 D nD => ?_⟩
  have lx := ax.len
  have nD0 : H D = none := tab_back T2 nD
  refine tup_tup (xs := xs) (fun i H' => Kd Pt D H H' ∧ ∃ acc, H' D = some (.lst acc) ∧ PtsAll H' acc ((ds.map (halfF c)).take i)) ⟨Kd.start T2 nD, [], upd_same, trivial⟩ (fun i H' h => SqT.of (h.1.get nD0 hT hp (fun _ z => by cases z))) ?_ ?_
  · rintro i x H3 hx ⟨k3, acc, hD, pa⟩
    obtain ⟨d, hd, u, rfl, hu⟩ := ax.get hx
    have hu3 := k3.get nD0 hT hu (fun _ z => by cases z)
    refine z_gTup (SqT.of hu3) rfl ?_
    walk_at "zz"
    refine ⟨rfl, ?_⟩
    walk_at "zz"
    refine ⟨d.1, d.2 + c, by rw [Int.natCast_add]; rfl, fun r H4 nr e4 hr4 => ?_⟩
    have hD4 := e4 _ _ hD
    have hlen := pa.len
    have hi : i < xs.length := (List.getElem?_eq_some_iff.mp hx).1
    refine ⟨acc, hD4, small1000 (by rw [hlen, List.length_take]; omega), (k3.same e4).upd hD4, _, upd_same, ?_⟩
    have ez : (ds.map (halfF c))[i]? = some ((halfF c) d) := by
      rw [List.getElem?_map, hd]
      rfl
    rw [List.take_add_one, ez]
    exact PtsAll.updL hD4 ((pa.kp (Kp.of_same e4)).snoc ⟨r, rfl, hr4⟩)
  · rintro H3 ⟨k3, acc, hD, pa⟩
    refine ⟨acc, hD, fun r nr => ?_⟩
    have e3 : Same H3 (upd H3 r (.tup acc)) := same_upd nr
    rw [List.take_of_length_le (by rw [List.length_map]; omega)] at pa
    exact qq r _ ((k3.kt nD0).trans (Kt.of_same e3 k3.tab)) ⟨acc, upd_same, pa.kp (Kp.of_same e3)⟩
def timesF (c : Int) (d : Zk.Pt) : Zk.Pt := partF d.2 (d.1 * c)
def spTimes (Pt : Addr) : Sp := fun vs H Q _ => ∃ (p : Addr) (ds : List Zk.Pt) (c : Int) (m : Nat), vs = [.ref p, .int c] ∧ RowA H p ds ∧ ds.length ≤ 100 ∧ m ≤ 10000 ∧ Bd m ds ∧ c.natAbs < 2 ^ m ∧ GxR.TabG H Pt ∧ ∀ r H', Kt Pt H H' → RowA H' r (ds.map (timesF c)) → Q (.ref r) H'
theorem b_mul {a b : Int} {m : Nat} (ha : a.natAbs < 2 ^ m) (hb : b.natAbs < 2 ^ m) (hm : m ≤ 10000) : CMulA a b := by
  have h1 : (2 : Nat) ^ m ≤ 2 ^ (m + 1) := Nat.pow_le_pow_right (by decide) (by omega)
  exact mulA (a := m + 1) (b := m + 1) (by omega) (by omega) (by omega) (by omega) (by omega)
theorem ok_row_times {f ca Pt : Addr} {fd : FuncData} (F : FnP K "row_times" s_row_times f fd) (hcd : fd.code = .ref ca) (TB : GxR.TabB base mg ca Pt) (m_tuple : mg "tuple" = none) (h_part : Has P w K mg base 1 "part" ["num", "e"] spPart) : FnOk P w K mg base CX0 8 f fd ["row", "many"] (spTimes Pt) := by
  refine okC F sc_row_times (fun vs H Q E h => ?_) (fun A outer s H vs Q E hr h => ?_)
  · obtain ⟨p, ds, c, m, rfl, _⟩ := h; rfl
  obtain ⟨p, ds, c, m, rfl, ⟨xs, hp, ax⟩, hl1, hm, bb, hc, hT, qq⟩ := h
  refine ⟨_, PSs.nox (pss_one (ps_ret (pe_tupG (k := 1) (own := [("num", 2), ("e", 3)]) (g := gTup K 2 (gCons (gName 2) (gCons (gName 3) gNil))) (hr.mono (by decide)) (by rfl) m_tuple TB hcd (by rfl) sc_row_times.nd (pi_tupE K (pv 0)) (blkOk_by (own := [("num", 2), ("e", 3)]) (N := ["row", "many", "num", "e"]) (sc := defScope s_row_times) (by decide +kernel)) ⟨rfl, by decide +kernel, rfl⟩ (fun _ _ _ _ _ _ _ hr => (pg_tup rfl (pgs_cons (pg_name (i := 2) sc_row_times.nd rfl (.inl rfl)) (pgs_cons (pg_name (i := 3) sc_row_times.nd rfl (.inl rfl)) pgs_nil)))) (fun _ _ _ _ _ _ _ hr => pts_nil) (fun _ _ _ _ _ _ _ hr => (pe_callH h_part (hr.mono (by decide)) (by rfl) (pa_cons (pe_op op_mulA (pv 2) (pv 1)) (pa_cons (pv 3) pa_nil)))) (fun _ => rfl)))), ?_⟩
  walk_at "zz"
  refine z_tupG ?_
  walk_at "zz"
  refine ⟨p, rfl, ⟨_, SqT.of hp⟩, hT, fun H2 T2 D nD => ?_⟩
  have lx := ax.len
  have nD0 : H D = none := tab_back T2 nD
  refine tup_tup (xs := xs) (fun i H' => Kd Pt D H H' ∧ ∃ acc, H' D = some (.lst acc) ∧ PtsAll H' acc ((ds.map (timesF c)).take i)) ⟨Kd.start T2 nD, [], upd_same, trivial⟩ (fun i H' h => SqT.of (h.1.get nD0 hT hp (fun _ z => by cases z))) ?_ ?_
  · rintro i x H3 hx ⟨k3, acc, hD, pa⟩
    obtain ⟨d, hd, u, rfl, hu⟩ := ax.get hx
    have hu3 := k3.get nD0 hT hu (fun _ z => by cases z)
    refine z_gTup (SqT.of hu3) rfl ?_
    walk_at "zz"
    refine ⟨rfl, ?_⟩
    walk_at "zz"
    have bd := b_mul (bb d (List.mem_of_getElem? hd)).1 hc hm
    refine z_mulA bd ?_
    walk_at "zz"
    refine ⟨d.1 * c, d.2, rfl, fun r H4 nr e4 hr4 => ?_⟩
    have hD4 := e4 _ _ hD
    have hlen := pa.len
    have hi : i < xs.length := (List.getElem?_eq_some_iff.mp hx).1
    refine ⟨acc, hD4, small1000 (by rw [hlen, List.length_take]; omega), (k3.same e4).upd hD4, _, upd_same, ?_⟩
    have ez : (ds.map (timesF c))[i]? = some ((timesF c) d) := by
      rw [List.getElem?_map, hd]
      rfl
    rw [List.take_add_one, ez]
    exact PtsAll.updL hD4 ((pa.kp (Kp.of_same e4)).snoc ⟨r, rfl, hr4⟩)
  · rintro H3 ⟨k3, acc, hD, pa⟩
    refine ⟨acc, hD, fun r nr => ?_⟩
    have e3 : Same H3 (upd H3 r (.tup acc)) := same_upd nr
    rw [List.take_of_length_le (by rw [List.length_map]; omega)] at pa
    exact qq r _ ((k3.kt nD0).trans (Kt.of_same e3 k3.tab)) ⟨acc, upd_same, pa.kp (Kp.of_same e3)⟩
def spCell (K : PySem.W.Frag) : Sp := fun vs H Q _ => ∃ (a : Addr) (ns : List Int) (k : Nat), vs = [.ref a, .int (k : Int)] ∧ SqL K H a (ns.map V.int) ∧ ns.length ≤ 63 ∧ ∀ c : Int, Q (.int c) H
theorem ok__law_cell_at {f : Addr} {fd : FuncData} (F : FnP K "_law_cell_at" s__law_cell_at f fd) (m_len : mg "len" = none) : FnOk P w K mg base CX0 1 f fd ["_law_script", "_law_k"] (spCell K) := by
  refine F.ok sc__law_cell_at (fun vs H Q E h => ?_) (fun cdv A outer s H vs Q E hr h => ?_)
  · obtain ⟨a, ns, k, rfl, _⟩ := h; rfl
  obtain ⟨a, ns, k, rfl, hS, hl, q⟩ := h
  refine ⟨_, PSs.nox (pss_cons (ps_if (pt_cmpR op_lt (pv 1) (pe_callB (call_lenE K) (by rfl) m_len (by decide +kernel) (pa_cons (pv 0) pa_nil)) (nomark _))
    (pss_one (ps_ret (pe_ix (ix_listE K) (pv 0) (pv 1) (fun _ _ => rfl))))
    pss_nil)
  (pss_one (ps_ret pe_int))), ?_⟩
  walk_at "zz"
  refine z_lenL hS ?_
  rw [List.length_map]
  walk_at "zz"
  refine z_ite (fun h => ?_) (fun h => ?_)
  · walk_at "zz"
    have h1 : k < ns.length := by omega
    refine z_ixL hS (v := .int ns[k]) (atI_nat ?_) ?_
    · rw [List.getElem?_map, List.getElem?_eq_getElem h1]
      rfl
    · exact q _
  · walk_at "zz"
    exact q _
def spBegin (K : PySem.W.Frag) : Sp := fun vs H Q _ => ∃ c : Int, vs = [.int c] ∧ ∀ p H', H p = none → Same H H' → Src H' p → Q (.ref p) H'
theorem ok__law_begin {f : Addr} {fd : FuncData} (F : FnP K "_law_begin" s__law_begin f fd) (m_int : mg "int" = none) : FnOk P w K mg base CX0 1 f fd ["_law_cell"] (spBegin K) := by
  refine F.ok sc__law_begin (fun vs H Q E h => ?_) (fun cdv A outer s H vs Q E hr h => ?_)
  · obtain ⟨c, rfl, _⟩ := h; rfl
  obtain ⟨c, rfl, q⟩ := h
  refine ⟨_, PSs.nox (pss_one (ps_ret (pe_lst (pa_cons (pe_ix (ix_listE K) (pe_lst (pa_cons pe_int (pa_cons (pv 0) pa_nil))) (pe_callTy call_intE (by rfl) m_int (by decide +kernel) (pa_cons (pe_cmpR op_ge (pv 0) (pe_op op_pow pe_int pe_int) (nomark _)) pa_nil)) (fun _ _ => rfl)) (pa_cons (pe_op op_modN (pv 0) pe_int) (pa_cons pe_int pa_nil)))))), ?_⟩
  walk_at "zz"
  refine z_new (by simp) (fun p1 H1 n1 s1 h1 => ?_)
  walk_at "zz"
  obtain ⟨x, hx⟩ : ∃ x : Int, atI [V.int 0, V.int c] (if decide (((10 : Int) ^ Int.toNat 18) ≤ c) = true then 1 else 0) = some (.int x) := by
    by_cases h : ((10 : Int) ^ Int.toNat 18) ≤ c
    · exact ⟨c, by rw [decide_eq_true h]; rfl⟩
    · exact ⟨0, by rw [decide_eq_false h]; rfl⟩
  refine z_ixL (SqL.of h1) hx ?_
  walk_at "zz"
  refine z_new (by simp) (fun p2 H2 n2 s2 h2 => ?_)
  exact q p2 H2 (s1.free n2) (s1.trans s2) ⟨_, _, _, h2⟩
def spDraw : Sp := fun vs H Q _ => ∃ (s : Addr) (m : Int), vs = [.ref s, .int m] ∧ 0 < m ∧ m.natAbs < 2 ^ 8000 ∧ Src H s ∧ ∀ (r : Int) H', 0 ≤ r → r < m → Dr s H H' → Q (.int r) H'
theorem ok__law_draw {f : Addr} {fd : FuncData} (F : FnP K "_law_draw" s__law_draw f fd) : FnOk P w K mg base CX0 1 f fd ["_law_source", "_law_most"] spDraw := by
  refine F.ok sc__law_draw (fun vs H Q E h => ?_) (fun cdv A outer s H vs Q E hr h => ?_)
  · obtain ⟨s, m, rfl, _⟩ := h; rfl
  obtain ⟨s, m, rfl, h0, hm, ⟨a, b, c, hs⟩, q⟩ := h
  refine ⟨_, PSs.nox (pss_cons (ps_if (pt_cmpR op_gt (pe_ix (ix_listE K) (pv 0) pe_int (fun _ _ => rfl)) pe_int (nomark _))
    (pss_cons (ps_set (i := 2) sc__law_draw.nd rfl (.inl rfl) (pe_op op_modN (pe_ix (ix_listE K) (pv 0) pe_int (fun _ _ => rfl)) (pv 1)))
  (pss_cons (ps_asg (pe_op op_fdivA (pe_ix (ix_listE K) (pv 0) pe_int (fun _ _ => rfl)) (pv 1)) (pg_sub (pv 0) pe_int set_list))
  (pss_one (ps_ret (pv 2)))))
    pss_nil)
  (pss_cons (ps_asg (pe_op op_add (pe_ix (ix_listE K) (pv 0) pe_int (fun _ _ => rfl)) pe_int) (pg_sub (pv 0) pe_int set_list))
  (pss_cons (ps_set (i := 3) sc__law_draw.nd rfl (.inl rfl) (pe_op op_modN (pe_op op_mulA (pe_op op_add (pe_op op_add (pe_ix (ix_listE K) (pv 0) pe_int (fun _ _ => rfl)) (pe_op op_mulA pe_int (pe_ix (ix_listE K) (pv 0) pe_int (fun _ _ => rfl)))) pe_int) pe_int) pe_int))
  (pss_cons (ps_set (i := 3) sc__law_draw.nd rfl (.inl rfl) (pe_op op_modN (pe_op op_mulA (pv 3) (pe_op op_add (pe_op op_fdivA (pv 3) pe_int) pe_int)) pe_int))
  (pss_one (ps_ret (pe_op op_modN (pe_op op_modN (pe_op op_mulA (pv 3) (pe_op op_add (pe_op op_fdivA (pv 3) pe_int) pe_int)) pe_int) (pv 1)))))))), ?_⟩
  have md : ∀ x : Int, CDivA x m := fun x => divA (n := 8000) (by omega) hm (by decide) (by decide)
  have dr : ∀ {H' : Hp} {x y z : Int}, H' = upd H s (.lst [.int x, .int y, .int z]) → Dr s H H' := fun {H' x y z} e => by
    rw [e]
    exact ⟨fun u o n h => by rw [upd_ne n]; exact h, ⟨_, _, _, upd_same⟩, ⟨_, _, _, hs⟩⟩
  walk_at "zz"
  refine z_ixL (SqL.of hs) (v := .int a) rfl ?_
  walk_at "zz"
  refine z_ite (fun h => ?_) (fun h => ?_)
  · walk_at "zz"
    refine z_ixL (SqL.of hs) (v := .int a) rfl ?_
    walk_at "zz"
    refine z_ixL (SqL.of hs) (v := .int a) rfl ?_
    walk_at "zz"
    refine z_fdivA (md _) ?_
    walk_at "zz"
    refine z_setL hs (j := 0) rfl ?_
    walk_at "zz"
    exact q _ _ (Int.fmod_nonneg_of_pos _ h0) (Int.fmod_lt_of_pos _ h0) (dr rfl)
  · walk_at "zz"
    refine z_ixL (SqL.of hs) (v := .int c) rfl ?_
    walk_at "zz"
    refine z_setL hs (j := 2) rfl ?_
    have hs2 : (upd H s (.lst ([V.int a, V.int b, V.int c].set 2 (.int (c + 1))))) s = some (.lst [.int a, .int b, .int (c + 1)]) := upd_same
    walk_at "zz"
    refine z_ixL (SqL.of hs2) (v := .int b) rfl ?_
    walk_at "zz"
    refine z_ixL (SqL.of hs2) (v := .int (c + 1)) rfl ?_
    refine z_mulA (mulL (by decide)) ?_
    walk_at "zz"
    refine z_mulA (mulR (by decide)) ?_
    walk_at "zz"
    generalize hn : ((b + 7919 * (c + 1) + 1) * 48271).fmod 2147483647 = n
    have n0 : 0 ≤ n := by rw [← hn]; exact Int.fmod_nonneg_of_pos _ (by decide)
    have n1 : n < 2147483647 := by rw [← hn]; exact Int.fmod_lt_of_pos _ (by decide)
    refine z_fdivA ⟨by decide, by decide +kernel⟩ ?_
    walk_at "zz"
    refine z_mulA (mulL ⟨by omega, by omega⟩) ?_
    walk_at "zz"
    generalize hk : (n * (n.fdiv 1009 + 69621)).fmod 2147483647 = k
    have k0 : 0 ≤ k := by rw [← hk]; exact Int.fmod_nonneg_of_pos _ (by decide)
    have k1 : k < 2147483647 := by rw [← hk]; exact Int.fmod_lt_of_pos _ (by decide)
    refine z_fdivA ⟨by decide, by decide +kernel⟩ ?_
    walk_at "zz"
    refine z_mulA (mulL ⟨by omega, by omega⟩) ?_
    walk_at "zz"
    exact q _ _ (Int.fmod_nonneg_of_pos _ h0) (Int.fmod_lt_of_pos _ h0) (dr rfl)
def spFar : Sp := fun vs H Q _ => ∃ s : Addr, vs = [.ref s] ∧ Src H s ∧ ∀ (n : Int) H', n.natAbs < 2 ^ 200 → Dr s H H' → Q (.int n) H'
theorem ok__law_far {f : Addr} {fd : FuncData} (F : FnP K "_law_far" s__law_far f fd) (m_range : mg "range" = none) (h__law_draw : Has P w K mg base 1 "_law_draw" ["_law_source", "_law_most"] spDraw) : FnOk P w K mg base CX0 2 f fd ["_law_source"] spFar := by
  refine F.ok sc__law_far (fun vs H Q E h => ?_) (fun cdv A outer s H vs Q E hr h => ?_)
  · obtain ⟨s, rfl, _⟩ := h; rfl
  obtain ⟨s, rfl, hs, q⟩ := h
  refine ⟨_, PSs.nox (pss_cons (ps_set (i := 1) sc__law_far.nd rfl (.inl rfl) (pe_callH h__law_draw (hr.mono (by decide)) (by rfl) (pa_cons (pv 0) (pa_cons pe_int pa_nil))))
  (pss_cons (ps_set (i := 2) sc__law_far.nd rfl (.inl rfl) (pe_op op_sub (pe_callH h__law_draw (hr.mono (by decide)) (by rfl) (pa_cons (pv 0) (pa_cons pe_int pa_nil))) pe_int))
  (pss_cons (ps_set (i := 3) sc__law_far.nd rfl (.inl rfl) pe_int)
  (pss_cons (ps_for PassesOwn.never rfl (pi_range1 (by rfl) m_range (pa_cons (pe_op op_add pe_int (pe_callH h__law_draw (hr.mono (by decide)) (by rfl) (pa_cons (pv 0) (pa_cons pe_int pa_nil)))) pa_nil)) (pg_name (i := 4) sc__law_far.nd rfl (.inl rfl))
    (pss_one (ps_set (i := 3) sc__law_far.nd rfl (.inl rfl) (pe_op op_add (pe_op op_mulA (pv 3) (pe_op op_pow pe_int pe_int)) (pe_callH h__law_draw (hr.mono (by decide)) (by rfl) (pa_cons (pv 0) (pa_cons (pe_op op_pow pe_int pe_int) pa_nil)))))))
  (pss_cons (ps_set (i := 5) sc__law_far.nd rfl (.inl rfl) (pe_op op_sub (pe_op op_add (pe_op op_shlA pe_int (pe_callH h__law_draw (hr.mono (by decide)) (by rfl) (pa_cons (pv 0) (pa_cons pe_int pa_nil)))) (pe_callH h__law_draw (hr.mono (by decide)) (by rfl) (pa_cons (pv 0) (pa_cons pe_int pa_nil)))) pe_int))
  (pss_one (ps_ret (pe_ix (ix_listE K) (pe_lst (pa_cons (pv 2) (pa_cons (pv 2) (pa_cons (pv 3) (pa_cons (pe_op op_sub pe_int (pv 3)) (pa_cons (pv 5) (pa_cons (pe_op op_sub pe_int (pv 5)) pa_nil))))))) (pv 1) (fun _ _ => rfl))))))))), ?_⟩
  walk_at "zz"
  refine ⟨s, _, rfl, by decide, by decide +kernel, hs, fun way H1 w0 w1 d1 => ?_⟩
  walk_at "zz"
  refine ⟨s, _, rfl, by decide, by decide +kernel, d1.src, fun small H2 s0 s1 d2 => ?_⟩
  walk_at "zz"
  refine ⟨s, _, rfl, by decide, by decide +kernel, d2.src, fun many H3 m0 m1 d3 => ?_⟩
  walk_at "zz"
  refine ⟨_, rfl, by omega, by omega, for_range (lo := 0) (n := (1 + many).toNat) (fun i σ H' => ∃ (great : Int) (k : Option V), σ = [some (.ref s), some (.int way), some (.int (small - 6)), some (.int great), k, none] ∧ Dr s H H' ∧ 0 ≤ great ∧ great < 10000000000 ^ i) ⟨0, none, rfl, (d1.trans d2).trans d3, by decide, by decide⟩ ?_ ?_⟩
  · rintro i σ H4 hi ⟨great, k, rfl, d4, g0, g1⟩
    walk_at "zz"
    refine z_mulA (mulR (by decide)) ?_
    walk_at "zz"
    refine ⟨s, _, rfl, by decide, by decide +kernel, d4.src, fun x H5 x0 x1 d5 => ?_⟩
    walk_at "zz"
    have e : (10 : Int) ^ Int.toNat 10 = 10000000000 := by decide
    rw [e] at x1 ⊢
    refine ⟨great * 10000000000 + x, _, rfl, d4.trans d5, by omega, ?_⟩
    rw [Int.pow_succ]
    omega
  · rintro σ H4 ⟨great, k, rfl, d4, g0, g1⟩
    walk_at "zz"
    refine ⟨s, _, rfl, by decide, by decide +kernel, d4.src, fun x H5 x0 x1 d5 => ?_⟩
    obtain ⟨xn, rfl⟩ : ∃ xn : Nat, x = (xn : Int) := ⟨x.toNat, by omega⟩
    refine z_shlA (shl_ok (n := 1) (by decide) (by omega)) ?_
    walk_at "zz"
    refine ⟨s, _, rfl, by decide, by decide +kernel, d5.src, fun y H6 y0 y1 d6 => ?_⟩
    walk_at "zz"
    refine z_new (by simp) (fun p H7 np sm hp => ?_)
    walk_at "zz"
    have gb : great < 10000000000 ^ 6 := Int.lt_of_lt_of_le g1 (ipow_le (c := 10000000000) (by decide) (by omega))
    have e6 : (10000000000 : Int) ^ 6 = 10 ^ 60 := by decide
    have p1 : (2 : Int) ^ (Int.toNat (xn : Int)) ≤ 2 ^ 199 := by
      rw [Int.toNat_natCast]
      exact ipow_le (c := 2) (by decide) (by omega)
    have p0 : (0 : Int) < 2 ^ (Int.toNat (xn : Int)) := Int.pow_pos (by decide)
    have e199 : (2 : Int) ^ 199 * 2 = ((2 ^ 200 : Nat) : Int) := by decide
    have e60 : (10 : Int) ^ 60 < ((2 ^ 200 : Nat) : Int) := by decide
    have b : ∀ n : Int, -((2 ^ 200 : Nat) : Int) < n → n < ((2 ^ 200 : Nat) : Int) → n.natAbs < 2 ^ 200 := fun n h1 h2 => by omega
    have dd : Dr s H H7 := (d4.trans d5).trans (d6.trans (Dr.of_same d6.src sm))
    have e200 : (8 : Int) < 2 ^ 199 := by decide
    generalize hX : (2 : Int) ^ (Int.toNat (xn : Int)) = X at *
    generalize hZ : ((2 ^ 200 : Nat) : Int) = Z at *
    generalize hY : (2 : Int) ^ 199 = Y at *
    rcases (show way = 0 ∨ way = 1 ∨ way = 2 ∨ way = 3 ∨ way = 4 ∨ way = 5 by omega) with rfl | rfl | rfl | rfl | rfl | rfl
    · exact z_ixL (SqL.of hp) (v := .int (small - 6)) rfl (q _ _ (b _ (by omega) (by omega)) dd)
    · exact z_ixL (SqL.of hp) (v := .int (small - 6)) rfl (q _ _ (b _ (by omega) (by omega)) dd)
    · exact z_ixL (SqL.of hp) (v := .int great) rfl (q _ _ (b _ (by omega) (by omega)) dd)
    · exact z_ixL (SqL.of hp) (v := .int (0 - great)) rfl (q _ _ (b _ (by omega) (by omega)) dd)
    · exact z_ixL (SqL.of hp) (v := .int (1 * X + y - 1)) rfl (q _ _ (b _ (by omega) (by omega)) dd)
    · exact z_ixL (SqL.of hp) (v := .int (0 - (1 * X + y - 1))) rfl (q _ _ (b _ (by omega) (by omega)) dd)
def spLPart : Sp := fun vs H Q _ => ∃ (n : Int) (e : Nat), vs = [.int n, .int (e : Int)] ∧ ∀ r H', H r = none → Same H H' → H' r = some (.tup [.int (partF e n).1, .int ((partF e n).2 : Int)]) → Q (.ref r) H'
theorem ok__law_part {f : Addr} {fd : FuncData} (F : FnP K "_law_part" s__law_part f fd) : FnOk P w K mg base CX0 1 f fd ["_law_num", "_law_e"] spLPart := by
  refine F.ok sc__law_part (fun vs H Q E h => ?_) (fun cdv A outer s H vs Q E hr h => ?_)
  · obtain ⟨n, e, rfl, _⟩ := h; rfl
  obtain ⟨n, e, rfl, k⟩ := h
  refine ⟨_, PSs.nox (pss_cons (ps_while PassesOwn.never (PW.pt (pw_and (pt_cmpR op_gt (pv 1) pe_int (nomark _)) (pw_and1 (pt_cmpR op_eq (pe_op op_modN (pv 0) pe_int) pe_int (nomark _)))))
    (pss_cons (ps_set (i := 0) sc__law_part.nd rfl (.inl rfl) (pe_op op_fdivA (pv 0) pe_int))
  (pss_one (ps_set (i := 1) sc__law_part.nd rfl (.inl rfl) (pe_op op_sub (pv 1) pe_int)))))
  (pss_one (ps_ret (pe_tup (pa_cons (pv 0) (pa_cons (pv 1) pa_nil)))))), ?_⟩
  walk_at "zz"
  refine ⟨fun m σ H' => ∃ (x : Int) (d : Nat), σ = [some (.int x), some (.int (d : Int))] ∧ H = H' ∧ d = m ∧ partF d x = partF e n, ⟨e, n, e, rfl, rfl, rfl, rfl⟩, ?_⟩
  rintro m σ H' ⟨x, d, rfl, rfl, rfl, hd⟩
  have done : d = 0 ∨ x % 2 = 1 → NewO HO.tup [V.int x, V.int (d : Int)] H Q := by
    intro h
    rw [partF_id h] at hd
    rw [← hd] at k
    exact z_new (by simp) k
  walk_at "zz"
  refine z_ite (fun h => ?_) (fun h => ?_)
  case refine_2 =>
    walk_at "zz"
    exact done (.inl (by omega))
  walk_at "zz"
  rw [Int.fmod_eq_emod_of_nonneg _ (by decide)]
  refine z_ite (fun h' => ?_) (fun h' => ?_)
  case refine_2 =>
    walk_at "zz"
    exact done (.inr (by omega))
  walk_at "zz"
  refine ⟨_, fun _ _ h => h, ?_⟩
  walk_at "zz"
  refine z_fdivA ⟨by decide, by decide +kernel⟩ ?_
  walk_at "zz"
  rw [Int.fdiv_eq_ediv_of_nonneg _ (by decide)]
  obtain ⟨c, rfl⟩ : ∃ c, d = c + 1 := ⟨d - 1, by omega⟩
  refine ⟨c, by omega, x / 2, c, ?_, rfl, rfl, ?_⟩
  · rw [show (((c + 1 : Nat) : Int) - 1) = (c : Int) by omega]
    rfl
  · rw [← hd]
    show _ = (if x % 2 = 0 then partF c (x / 2) else (x, c + 1))
    rw [if_pos h']
def joinF (s : Int) (x y : Zk.Pt) : Zk.Pt := partF (x.2 + y.2) (x.1 * 2 ^ y.2 + s * (y.1 * 2 ^ x.2))
def spJoined (K : PySem.W.Frag) : Sp := fun vs H Q _ => ∃ (p q : Addr) (ds es : List Zk.Pt) (s : Int) (m : Nat), vs = [.ref p, .ref q, .int s] ∧ m ≤ 10000 ∧ RowA H p ds ∧ RowA H q es ∧ ds.length = es.length ∧ ds.length ≤ 100 ∧ Bd m ds ∧ Bd m es ∧ (s = 1 ∨ s = -1) ∧
  ∀ r H', Same H H' → RowA H' r (List.zipWith (joinF s) ds es) → Q (.ref r) H'
theorem b_pow {a : Int} {m k : Nat} (ha : a.natAbs < 2 ^ m) (hm : m ≤ 10000) (hk : k ≤ 10000) : CMulA a (1 * 2 ^ k) := by
  have h1 : (2 : Nat) ^ m ≤ 2 ^ (m + 1) := Nat.pow_le_pow_right (by decide) (by omega)
  refine mulA (a := m + 1) (b := k + 1) (by omega) ?_ (by omega) (by omega) (by omega)
  rw [Int.one_mul, Int.natAbs_pow]
  exact Nat.pow_lt_pow_right (by decide) (by omega)
theorem ok__law_joined {f : Addr} {fd : FuncData} (F : FnP K "_law_joined" s__law_joined f fd) (m_len : mg "len" = none) (m_range : mg "range" = none) (m_tuple : mg "tuple" = none) (h__law_part : Has P w K mg base 1 "_law_part" ["_law_num", "_law_e"] spLPart) : FnOk P w K mg base CX0 2 f fd ["_law_one", "_law_other", "_law_sign"] (spJoined K) := by
  refine F.ok sc__law_joined (fun vs H Q E h => ?_) (fun cdv A outer s0 H vs Q E hr h => ?_)
  · obtain ⟨p, q, ds, es, s, m, rfl, _⟩ := h; rfl
  obtain ⟨p, q, ds, es, s, m, rfl, hm, ⟨xs, hp, ax⟩, ⟨ys, hq, ay⟩, hl, hl1, b1, b2, hs, qq⟩ := h
  refine ⟨_, PSs.nox (pss_cons (ps_set (i := 3) sc__law_joined.nd rfl (.inl rfl) (pe_lst pa_nil))
  (pss_cons (ps_for PassesOwn.never rfl (pi_range1 (by rfl) m_range (pa_cons (pe_callB (call_lenE K) (by rfl) m_len (by decide +kernel) (pa_cons (pv 0) pa_nil)) pa_nil)) (pg_name (i := 4) sc__law_joined.nd rfl (.inl rfl))
    (pss_cons (ps_set (i := 5) sc__law_joined.nd rfl (.inl rfl) (pe_op op_add (pe_ix (ix_tupE K) (pe_ix (ix_tupE K) (pv 0) (pv 4) (fun _ _ => rfl)) pe_int (fun _ _ => rfl)) (pe_ix (ix_tupE K) (pe_ix (ix_tupE K) (pv 1) (pv 4) (fun _ _ => rfl)) pe_int (fun _ _ => rfl))))
  (pss_cons (ps_set (i := 6) sc__law_joined.nd rfl (.inl rfl) (pe_op op_mulA (pe_ix (ix_tupE K) (pe_ix (ix_tupE K) (pv 0) (pv 4) (fun _ _ => rfl)) pe_int (fun _ _ => rfl)) (pe_op op_shlA pe_int (pe_ix (ix_tupE K) (pe_ix (ix_tupE K) (pv 1) (pv 4) (fun _ _ => rfl)) pe_int (fun _ _ => rfl)))))
  (pss_cons (ps_set (i := 7) sc__law_joined.nd rfl (.inl rfl) (pe_op op_mulA (pe_ix (ix_tupE K) (pe_ix (ix_tupE K) (pv 1) (pv 4) (fun _ _ => rfl)) pe_int (fun _ _ => rfl)) (pe_op op_shlA pe_int (pe_ix (ix_tupE K) (pe_ix (ix_tupE K) (pv 0) (pv 4) (fun _ _ => rfl)) pe_int (fun _ _ => rfl)))))
  (pss_one (ps_expr (pe_bm PySem.F.plainAttrs_list PySem.F.slot_list_append PySem.F.type_list_append mt_append (pv 3) (pa_cons (pe_callH h__law_part (hr.mono (by decide)) (by rfl) (pa_cons (pe_op op_add (pv 6) (pe_op op_mulA (pv 2) (pv 7))) (pa_cons (pv 5) pa_nil))) pa_nil))))))))
  (pss_one (ps_ret (pe_callTy (call_tupleE K) (by rfl) m_tuple (by decide +kernel) (pa_cons (pv 3) pa_nil)))))), ?_⟩
  have lx := ax.len
  have ly := ay.len
  walk_at "zz"
  refine z_new (by simp) (fun l1 H1 n1 e1 h1 => ?_)
  walk_at "zz"
  refine z_lenT (e1 _ _ hp) ?_
  walk_at "zz"
  refine ⟨_, rfl, by omega, by omega, for_range (lo := 0) (n := xs.length) (fun i σ H' => (∃ y4 y5 y6 y7, σ = [some (.ref p), some (.ref q), some (.int s), some (.ref l1), y4, y5, y6, y7]) ∧ Same H H' ∧ ∃ acc, H' l1 = some (.lst acc) ∧ PtsAll H' acc ((List.zipWith (joinF s) ds es).take i)) ⟨⟨_, _, _, _, rfl⟩, e1, [], h1, trivial⟩ ?_ ?_⟩
  · rintro i σ H3 hi ⟨⟨y4, y5, y6, y7, rfl⟩, k3, acc, hD, pa⟩
    have hx : xs[i]? = some xs[i] := List.getElem?_eq_getElem hi
    have hy : ys[i]? = some ys[i] := List.getElem?_eq_getElem (by omega)
    obtain ⟨d, hd, u, eu, hu⟩ := ax.get hx
    obtain ⟨e, he, v, ev, hv⟩ := ay.get hy
    rw [eu] at hx
    rw [ev] at hy
    have bd := b1 d (List.mem_of_getElem? hd)
    have be := b2 e (List.mem_of_getElem? he)
    have hp3 := k3 _ _ hp
    have hq3 := k3 _ _ hq
    have hu3 := k3 _ _ hu
    have hv3 := k3 _ _ hv
    walk_at "zz"
    refine z_ixT (SqT.of hp3) (at_of (by omega) hx) ?_
    walk_at "zz"
    refine z_ixT (SqT.of hu3) (v := .int (d.2 : Int)) rfl ?_
    walk_at "zz"
    refine z_ixT (SqT.of hq3) (at_of (by omega) hy) ?_
    walk_at "zz"
    refine z_ixT (SqT.of hv3) (v := .int (e.2 : Int)) rfl ?_
    walk_at "zz"
    refine z_ixT (SqT.of hp3) (at_of (by omega) hx) ?_
    walk_at "zz"
    refine z_ixT (SqT.of hu3) (v := .int d.1) rfl ?_
    walk_at "zz"
    refine z_ixT (SqT.of hq3) (at_of (by omega) hy) ?_
    walk_at "zz"
    refine z_ixT (SqT.of hv3) (v := .int (e.2 : Int)) rfl ?_
    walk_at "zz"
    refine z_shlA (shl_ok (n := 1) (by decide) (by omega)) ?_
    rw [Int.toNat_natCast]
    refine z_mulA (b_pow bd.1 hm (by omega)) ?_
    walk_at "zz"
    refine z_ixT (SqT.of hq3) (at_of (by omega) hy) ?_
    walk_at "zz"
    refine z_ixT (SqT.of hv3) (v := .int e.1) rfl ?_
    walk_at "zz"
    refine z_ixT (SqT.of hp3) (at_of (by omega) hx) ?_
    walk_at "zz"
    refine z_ixT (SqT.of hu3) (v := .int (d.2 : Int)) rfl ?_
    walk_at "zz"
    refine z_shlA (shl_ok (n := 1) (by decide) (by omega)) ?_
    rw [Int.toNat_natCast]
    refine z_mulA (b_pow be.1 hm (by omega)) ?_
    walk_at "zz"
    refine ⟨.inl ⟨rfl, _, SqL.of hD⟩, ?_⟩
    walk_at "zz"
    refine z_mulA (mulL (by rcases hs with rfl | rfl <;> decide)) ?_
    walk_at "zz"
    refine ⟨_, d.2 + e.2, by rw [Int.natCast_add]; rfl, fun r H4 nr e4 hr4 => ?_⟩
    have hD4 := e4 _ _ hD
    have hlen := pa.len
    refine ⟨l1, _, _, rfl, rfl, hD4, small1000 (by rw [hlen, List.length_take]; omega), ⟨_, _, _, _, rfl⟩, fun b o hb => ?_, _, upd_same, ?_⟩
    · rw [upd_ne (ne_of_none hb n1)]
      exact e4 _ _ (k3 _ _ hb)
    · have ez : (List.zipWith (joinF s) ds es)[i]? = some (joinF s d e) := by
        rw [List.getElem?_zipWith, hd, he]
      rw [List.take_add_one, ez]
      rw [Int.one_mul, Int.one_mul] at hr4
      exact PtsAll.updL hD4 ((pa.kp (Kp.of_same e4)).snoc ⟨r, rfl, hr4⟩)
  · rintro σ H3 ⟨⟨y4, y5, y6, y7, rfl⟩, k3, acc, hD, pa⟩
    walk_at "zz"
    refine z_tupleL hD (fun r H4 n4 e4 h4 => ?_)
    rw [List.take_of_length_le (by rw [List.length_zipWith]; omega)] at pa
    exact qq r _ (k3.trans e4) ⟨acc, h4, pa.kp (Kp.of_same e4)⟩
def spRowD : Sp := fun vs H Q _ => ∃ (s : Addr) (n : Nat), vs = [.ref s, .int (n : Int)] ∧ n ≤ 100 ∧ Src H s ∧ ∀ r ds H', ds.length = n → Bd 200 ds → RowA H' r ds → Dr s H H' → Q (.ref r) H'
theorem ok__law_row {f : Addr} {fd : FuncData} (F : FnP K "_law_row" s__law_row f fd) (m_range : mg "range" = none) (m_tuple : mg "tuple" = none) (h_part : Has P w K mg base 1 "part" ["num", "e"] spPart) (h__law_draw : Has P w K mg base 1 "_law_draw" ["_law_source", "_law_most"] spDraw) (h__law_far : Has P w K mg base 2 "_law_far" ["_law_source"] spFar) : FnOk P w K mg base CX0 3 f fd ["_law_source", "_law_many"] spRowD := by
  refine F.ok sc__law_row (fun vs H Q E h => ?_) (fun cdv A outer s0 H vs Q E hr h => ?_)
  · obtain ⟨s, n, rfl, _⟩ := h; rfl
  obtain ⟨s, n, rfl, hn, hs, qq⟩ := h
  refine ⟨_, PSs.nox (pss_cons (ps_set (i := 2) sc__law_row.nd rfl (.inl rfl) (pe_lst pa_nil))
  (pss_cons (ps_for PassesOwn.never rfl (pi_range1 (by rfl) m_range (pa_cons (pv 1) pa_nil)) (pg_name (i := 3) sc__law_row.nd rfl (.inl rfl))
    (pss_cons (ps_set (i := 4) sc__law_row.nd rfl (.inl rfl) (pe_callH h_part (hr.mono (by decide)) (by rfl) (pa_cons (pe_callH h__law_far (hr.mono (by decide)) (by rfl) (pa_cons (pv 0) pa_nil)) (pa_cons (pe_ix (ix_listE K) (pe_lst (pa_cons pe_int (pa_cons (pe_callH h__law_draw (hr.mono (by decide)) (by rfl) (pa_cons (pv 0) (pa_cons pe_int pa_nil))) (pa_cons (pe_callH h__law_draw (hr.mono (by decide)) (by rfl) (pa_cons (pv 0) (pa_cons pe_int pa_nil))) pa_nil)))) (pe_callH h__law_draw (hr.mono (by decide)) (by rfl) (pa_cons (pv 0) (pa_cons pe_int pa_nil))) (fun _ _ => rfl)) pa_nil))))
  (pss_one (ps_expr (pe_bm PySem.F.plainAttrs_list PySem.F.slot_list_append PySem.F.type_list_append mt_append (pv 2) (pa_cons (pe_ix (ix_listE K) (pe_lst (pa_cons (pv 4) (pa_cons (pv 4) (pa_cons (pv 4) (pa_cons (pe_tup (pa_cons pe_int (pa_cons pe_int pa_nil))) (pa_cons (pe_ix (ix_listE K) (pe_op op_cat (pv 2) (pe_lst (pa_cons (pv 4) pa_nil))) pe_int (fun _ _ => rfl)) pa_nil)))))) (pe_callH h__law_draw (hr.mono (by decide)) (by rfl) (pa_cons (pv 0) (pa_cons pe_int pa_nil))) (fun _ _ => rfl)) pa_nil))))))
  (pss_one (ps_ret (pe_callTy (call_tupleE K) (by rfl) m_tuple (by decide +kernel) (pa_cons (pv 2) pa_nil)))))), ?_⟩
  walk_at "zz"
  refine z_new (by simp) (fun l1 H1 n1 e1 h1 => ?_)
  have l1s : l1 ≠ s := hs.ne n1
  walk_at "zz"
  refine ⟨_, rfl, by omega, by omega, for_range (lo := 0) (n := n) (fun i σ H' => (∃ y3 y4, σ = [some (.ref s), some (.int (n : Int)), some (.ref l1), y3, y4]) ∧ (∀ b o, b ≠ s → b ≠ l1 → H b = some o → H' b = some o) ∧ Src H' s ∧ ∃ acc ds, H' l1 = some (.lst acc) ∧ PtsAll H' acc ds ∧ ds.length = i ∧ Bd 200 ds) ⟨⟨_, _, rfl⟩, fun b o _ _ hb => e1 _ _ hb, hs.same e1, [], [], h1, trivial, rfl, fun d hd => by cases hd⟩ ?_ ?_⟩
  · rintro i σ H3 hi ⟨⟨y3, y4, rfl⟩, k3, r3, acc, ds, hD, pa, hl, bb⟩
    walk_at "zz"
    refine ⟨s, rfl, r3, fun num H4 hnum d4 => ?_⟩
    walk_at "zz"
    refine ⟨s, _, rfl, by decide, by decide +kernel, d4.src, fun x1 H5 x10 x11 d5 => ?_⟩
    walk_at "zz"
    refine ⟨s, _, rfl, by decide, by decide +kernel, d5.src, fun x2 H6 x20 x21 d6 => ?_⟩
    walk_at "zz"
    refine z_new (by simp) (fun l7 H7 n7 e7 h7 => ?_)
    walk_at "zz"
    refine ⟨s, _, rfl, by decide, by decide +kernel, d6.src.same e7, fun x3 H8 x30 x31 d8 => ?_⟩
    have h78 := d8.keep _ _ (d6.src.ne n7) h7
    obtain ⟨ei, hpick, he⟩ : ∃ ei : Nat, atI [V.int 0, V.int x1, V.int x2] x3 = some (.int (ei : Int)) ∧ ei ≤ 100 := by
      rcases (show x3 = 0 ∨ x3 = 1 ∨ x3 = 2 by omega) with rfl | rfl | rfl
      · exact ⟨0, rfl, by decide⟩
      · exact ⟨x1.toNat, by rw [show ((x1.toNat : Nat) : Int) = x1 by omega]; rfl, by omega⟩
      · exact ⟨x2.toNat, by rw [show ((x2.toNat : Nat) : Int) = x2 by omega]; rfl, by omega⟩
    refine z_ixL (SqL.of h78) hpick ?_
    walk_at "zz"
    refine ⟨num, ei, rfl, fun po H9 n9 e9 ho9 => ?_⟩
    have d38 : Dr s H3 H8 := (d4.trans d5).trans (d6.trans ((Dr.of_same d6.src e7).trans d8))
    have d39 : Dr s H3 H9 := d38.trans (Dr.of_same d38.src e9)
    have bpo : (partF ei num).1.natAbs < 2 ^ 200 ∧ (partF ei num).2 ≤ 200 := by
      have := partF_le ei num
      exact ⟨by omega, by omega⟩
    have hD9 := d39.keep _ _ l1s hD
    have kp39 : PtsAll H9 acc ds := by
      have key : ∀ {vs : List V} {es : List Zk.Pt}, PtsAll H3 vs es → PtsAll H9 vs es := fun {vs es} => by
        induction vs generalizing es with
        | nil => cases es with
          | nil => exact fun h => h
          | cons d es => exact fun h => h.elim
        | cons v vs ih => cases es with
          | nil => exact fun h => h.elim
          | cons d es =>
            rintro ⟨⟨q, rfl, hq⟩, h2⟩
            exact ⟨⟨q, rfl, d39.tup hq⟩, ih h2⟩
      exact key pa
    walk_at "zz"
    refine ⟨.inl ⟨rfl, _, SqL.of hD9⟩, ?_⟩
    walk_at "zz"
    refine z_new (by simp) (fun p10 H10 n10 e10 h10 => ?_)
    walk_at "zz"
    refine z_new (by simp) (fun l11 H11 n11 e11 h11 => ?_)
    have hlen := pa.len
    refine z_cat (e11 _ _ (e10 _ _ hD9)) h11 (by simp; omega) (fun l12 H12 n12 e12 h12 => ?_)
    obtain ⟨v0, hv0, d0, pv0, bv0⟩ : ∃ v0, atI (acc ++ [V.ref po]) 0 = some v0 ∧ ∃ d0 : Zk.Pt, PtV H9 v0 d0 ∧ (d0.1.natAbs < 2 ^ 200 ∧ d0.2 ≤ 200) := by
      cases acc with
      | nil => exact ⟨_, rfl, _, ⟨po, rfl, ho9⟩, bpo⟩
      | cons v vs => cases ds with
        | nil => exact kp39.elim
        | cons d ds => exact ⟨v, at_of (j := 0) rfl (by simp), d, kp39.1, bb d (by simp)⟩
    walk_at "zz"
    refine z_ixL (SqL.of h12) hv0 ?_
    walk_at "zz"
    refine z_new (by simp) (fun l13 H13 n13 e13 h13 => ?_)
    have e913 := e10.trans (e11.trans (e12.trans e13))
    have d313 : Dr s H3 H13 := d39.trans (Dr.of_same d39.src e913)
    have r12 : Src H12 s := ((d39.src.same e10).same e11).same e12
    walk_at "zz"
    refine ⟨s, _, rfl, by decide, by decide +kernel, d313.src, fun x14 H14 x140 x141 d14 => ?_⟩
    have h1314 := d14.keep _ _ (r12.ne n13) h13
    have e914 : ∀ {v : V} {d : Zk.Pt}, PtV H9 v d → PtV H14 v d := by
      rintro v d ⟨q, rfl, hq⟩
      exact ⟨q, rfl, d14.tup (e913 _ _ hq)⟩
    obtain ⟨v, hv, d, pv, bv⟩ : ∃ v, atI [V.ref po, V.ref po, V.ref po, V.ref p10, v0] x14 = some v ∧ ∃ d : Zk.Pt, PtV H14 v d ∧ (d.1.natAbs < 2 ^ 200 ∧ d.2 ≤ 200) := by
      have ko : PtV H14 (.ref po) (partF ei num) := e914 ⟨po, rfl, ho9⟩
      rcases (show x14 = 0 ∨ x14 = 1 ∨ x14 = 2 ∨ x14 = 3 ∨ x14 = 4 by omega) with rfl | rfl | rfl | rfl | rfl
      · exact ⟨_, rfl, _, ko, bpo⟩
      · exact ⟨_, rfl, _, ko, bpo⟩
      · exact ⟨_, rfl, _, ko, bpo⟩
      · exact ⟨_, rfl, (0, 0), ⟨p10, rfl, d14.tup ((e11.trans (e12.trans e13)) _ _ h10)⟩, by decide +kernel, by decide⟩
      · exact ⟨_, rfl, d0, e914 pv0, bv0⟩
    refine z_ixL (SqL.of h1314) hv ?_
    have d314 := d313.trans d14
    have hD14 := d314.keep _ _ l1s hD
    have pa14 : PtsAll H14 acc ds := by
      have key : ∀ {vs : List V} {es : List Zk.Pt}, PtsAll H9 vs es → PtsAll H14 vs es := fun {vs es} => by
        induction vs generalizing es with
        | nil => cases es with
          | nil => exact fun h => h
          | cons d es => exact fun h => h.elim
        | cons v vs ih => cases es with
          | nil => exact fun h => h.elim
          | cons d es => exact fun h => ⟨e914 h.1, ih h.2⟩
      exact key kp39
    refine ⟨l1, _, _, rfl, rfl, hD14, small1000 (by omega), ⟨_, _, rfl⟩, fun b o nb nl hb => by rw [upd_ne nl]; exact d314.keep _ _ nb (k3 b o nb nl hb), ?_, acc ++ [v], ds ++ [d], upd_same, PtsAll.updL hD14 (pa14.snoc pv), by simp [hl], fun x hx => ?_⟩
    · obtain ⟨x, y, z, hz⟩ := d314.src
      exact ⟨x, y, z, by rw [upd_ne l1s.symm]; exact hz⟩
    · rcases List.mem_append.mp hx with h | h
      · exact bb x h
      · rw [List.mem_singleton.mp h]; exact bv
  · rintro σ H3 ⟨⟨y3, y4, rfl⟩, k3, r3, acc, ds, hD, pa, hl, bb⟩
    walk_at "zz"
    refine z_tupleL hD (fun r H4 n4 e4 h4 => ?_)
    exact qq r ds _ hl bb ⟨acc, h4, pa.kp (Kp.of_same e4)⟩ ⟨fun b o nb hb => e4 _ _ (k3 b o nb (ne_of_none hb n1) hb), r3.same e4, hs⟩
def spLaw (K : PySem.W.Frag) (P1 P2 P3 P4 P5 : Addr) : Sp := fun vs H Q _ => ∃ (a : Addr) (ns : List Int), vs = [.ref a] ∧ SqL K H a (ns.map V.int) ∧ ns.length ≤ 63 ∧ GxR.TabG H P1 ∧ GxR.TabG H P2 ∧ GxR.TabG H P3 ∧ GxR.TabG H P4 ∧ GxR.TabG H P5 ∧ ∀ H', Q (.bl true) H'
theorem cells {ns : List Int} (lo hi : Option Int) (hl : ns.length ≤ 63) : ∃ cs : List Int, cutV (ns.map V.int) lo hi = cs.map V.int ∧ cs.length ≤ 63 := by
  refine ⟨(ns.drop (HT.sIx (ns.map V.int).length 0 lo)).take (HT.sIx (ns.map V.int).length (ns.map V.int).length hi - HT.sIx (ns.map V.int).length 0 lo), ?_, ?_⟩
  · unfold cutV
    rw [List.map_take, List.map_drop]
  · rw [List.length_take, List.length_drop]
    omega
theorem cell_at {cs : List Int} {i : Nat} {v : V} (hv : (cs.map V.int)[i]? = some v) : ∃ c : Int, v = .int c := by
  rw [List.getElem?_map] at hv
  obtain ⟨c, _, e⟩ := Option.map_eq_some_iff.mp hv
  exact ⟨c, e.symm⟩
theorem joined_plus : joinF 1 = plusF := by
  funext x y
  show partF _ (_ + 1 * _) = partF _ (_ + _)
  rw [Int.one_mul]
theorem joined_less : joinF (-1) = lessF := by
  funext x y
  show partF _ (_ + -1 * _) = partF _ (_ - _)
  rw [Int.neg_mul, Int.one_mul, Int.sub_eq_add_neg]
theorem ok_law {f P1 P2 P3 P4 P5 : Addr} {fd : FuncData} (F : FnP K "law" s_law f fd) (m_isinstance : mg "isinstance" = none) (m_tuple : mg "tuple" = none) (m_range : mg "range" = none)
    (h_own_row : Has P w K mg base 7 "own_row" ["numbers"] (spOwnRow P1)) (h_zero_row : Has P w K mg base 1 "zero_row" ["many"] (spZero K)) (h_row_plus : Has P w K mg base 9 "row_plus" ["one", "other"] (spRow2 P2 plusF)) (h_row_less : Has P w K mg base 10 "row_less" ["one", "other"] (spRow2 P3 lessF))
    (h_row_halved : Has P w K mg base 8 "row_halved" ["row", "c"] (spHalved P4)) (h_row_times : Has P w K mg base 8 "row_times" ["row", "many"] (spTimes P5))
    (h__law_cell_at : Has P w K mg base 1 "_law_cell_at" ["_law_script", "_law_k"] (spCell K)) (h__law_begin : Has P w K mg base 1 "_law_begin" ["_law_cell"] (spBegin K)) (h__law_draw : Has P w K mg base 1 "_law_draw" ["_law_source", "_law_most"] spDraw) (h__law_far : Has P w K mg base 2 "_law_far" ["_law_source"] spFar)
    (h__law_part : Has P w K mg base 1 "_law_part" ["_law_num", "_law_e"] spLPart) (h__law_joined : Has P w K mg base 2 "_law_joined" ["_law_one", "_law_other", "_law_sign"] (spJoined K)) (h__law_row : Has P w K mg base 3 "_law_row" ["_law_source", "_law_many"] spRowD) : FnOk P w K mg base CX0 11 f fd ["_law_script"] (spLaw K P1 P2 P3 P4 P5) := by
  refine F.ok sc_law (fun vs H Q E h => ?_) (fun cdv A outer s0 H vs Q E hr h => ?_)
  · obtain ⟨a, ns, rfl, _⟩ := h; rfl
  obtain ⟨a, ns, rfl, hS, hlen, t1, t2, t3, t4, t5, q⟩ := h
  generalize hPs : [P1, P2, P3, P4, P5] = Ps
  have i1 : P1 ∈ Ps := by rw [← hPs]; simp
  have i2 : P2 ∈ Ps := by rw [← hPs]; simp
  have i3 : P3 ∈ Ps := by rw [← hPs]; simp
  have i4 : P4 ∈ Ps := by rw [← hPs]; simp
  have i5 : P5 ∈ Ps := by rw [← hPs]; simp
  have tt0 : ∀ p ∈ Ps, GxR.TabG H p := by
    intro p hp
    rw [← hPs] at hp
    simp only [List.mem_cons, List.not_mem_nil, or_false] at hp
    rcases hp with rfl | rfl | rfl | rfl | rfl
    · exact t1
    · exact t2
    · exact t3
    · exact t4
    · exact t5
  refine ⟨_, PSs.nox (pss_cons (ps_for PassesOwn.never rfl (pi_listE K (pe_op op_cat (pe_lst (pa_cons (pe_callH h__law_cell_at (hr.mono (by decide)) (by rfl) (pa_cons (pv 0) (pa_cons pe_int pa_nil))) pa_nil)) (pe_slice (sl_listE K) (pv 0) (po_some pe_int) (po_some pe_int)))) (pg_name (i := 1) sc_law.nd rfl (.inl rfl))
    (pss_cons (ps_set (i := 2) sc_law.nd rfl (.inr rfl) (pe_callH h__law_begin (hr.mono (by decide)) (by rfl) (pa_cons (pv 1) pa_nil)))
  (pss_cons (ps_set (i := 3) sc_law.nd rfl (.inl rfl) (pe_op op_add pe_int (pe_callH h__law_draw (hr.mono (by decide)) (by rfl) (pa_cons (pv 2) (pa_cons pe_int pa_nil)))))
  (pss_cons (ps_set (i := 4) sc_law.nd rfl (.inl rfl) (pe_callH h__law_row (hr.mono (by decide)) (by rfl) (pa_cons (pv 2) (pa_cons (pv 3) pa_nil))))
  (pss_cons (ps_set (i := 5) sc_law.nd rfl (.inl rfl) (pe_ix (ix_listE K) (pe_lst (pa_cons (pe_callH h__law_row (hr.mono (by decide)) (by rfl) (pa_cons (pv 2) (pa_cons (pv 3) pa_nil))) (pa_cons (pv 4) pa_nil))) (pe_op op_fdivA (pe_callH h__law_draw (hr.mono (by decide)) (by rfl) (pa_cons (pv 2) (pa_cons pe_int pa_nil))) pe_int) (fun _ _ => rfl)))
  (pss_cons (ps_for PassesOwn.never rfl (pi_range1 (by rfl) m_range (pa_cons pe_int pa_nil)) (pg_name (i := 6) sc_law.nd rfl (.inl rfl))
    (pss_cons (ps_if (pt_cmpR (op_neDE K hr.units) (pe_callH h_row_plus (hr.mono (by decide)) (by rfl) (pa_cons (pv 4) (pa_cons (pv 5) pa_nil))) (pe_callH h__law_joined (hr.mono (by decide)) (by rfl) (pa_cons (pv 4) (pa_cons (pv 5) (pa_cons pe_int pa_nil)))) (nomark _))
    (pss_one (ps_ret pe_bl))
    pss_nil)
  (pss_one (ps_if (pt_cmpR (op_neDE K hr.units) (pe_callH h_row_less (hr.mono (by decide)) (by rfl) (pa_cons (pv 4) (pa_cons (pv 5) pa_nil))) (pe_callH h__law_joined (hr.mono (by decide)) (by rfl) (pa_cons (pv 4) (pa_cons (pv 5) (pa_cons (pe_un un_neg pe_int) pa_nil)))) (nomark _))
    (pss_one (ps_ret pe_bl))
    pss_nil))))
  (pss_cons (ps_set (i := 7) sc_law.nd rfl (.inr rfl) (pe_ix (ix_listE K) (pe_lst (pa_cons pe_int (pa_cons pe_int (pa_cons pe_int (pa_cons (pe_callH h__law_draw (hr.mono (by decide)) (by rfl) (pa_cons (pv 2) (pa_cons pe_int pa_nil))) pa_nil))))) (pe_callH h__law_draw (hr.mono (by decide)) (by rfl) (pa_cons (pv 2) (pa_cons pe_int pa_nil))) (fun _ _ => rfl)))
  (pss_cons (ps_if (pt_cmpR (op_neDE K hr.units) (pe_callH h_row_halved (hr.mono (by decide)) (by rfl) (pa_cons (pv 4) (pa_cons (pv 7) pa_nil))) (pe_callTy (call_tupleE K) (by rfl) m_tuple (by decide +kernel) (pa_cons (pe_lc (own := [("_law_num", 11), ("_law_e", 12)]) (g := (gTup K 2 (gCons (gName 11) (gCons (gName 12) gNil)))) (by rfl) sc_law.nd (pi_tupE K (pv 4)) (blkOk_by (own := [("_law_num", 11), ("_law_e", 12)]) (N := ["_law_script", "_law_cell", "_law_source", "_law_many", "_law_one", "_law_other", "_law_turn", "_law_c", "_law_often", "_law_numbers", "_law_nought", "_law_num", "_law_e", "_law_k", "_law_number"]) (sc := defScope s_law) (by decide +kernel)) (fun _ _ _ _ _ => (pg_tup rfl (pgs_cons (pg_name (i := 11) sc_law.nd rfl (.inl rfl)) (pgs_cons (pg_name (i := 12) sc_law.nd rfl (.inl rfl)) pgs_nil)))) (fun _ _ _ _ _ => pts_nil) (fun _ _ _ _ _ => (pe_callH h__law_part (hr.mono (by decide)) (by rfl) (pa_cons (pv 11) (pa_cons (pe_op op_add (pv 12) (pv 7)) pa_nil))))) pa_nil)) (nomark _))
    (pss_one (ps_ret pe_bl))
    pss_nil)
  (pss_cons (ps_set (i := 8) sc_law.nd rfl (.inr rfl) (pe_callH h__law_far (hr.mono (by decide)) (by rfl) (pa_cons (pv 2) pa_nil)))
  (pss_cons (ps_if (pt_cmpR (op_neDE K hr.units) (pe_callH h_row_times (hr.mono (by decide)) (by rfl) (pa_cons (pv 4) (pa_cons (pv 8) pa_nil))) (pe_callTy (call_tupleE K) (by rfl) m_tuple (by decide +kernel) (pa_cons (pe_lc (own := [("_law_num", 11), ("_law_e", 12)]) (g := (gTup K 2 (gCons (gName 11) (gCons (gName 12) gNil)))) (by rfl) sc_law.nd (pi_tupE K (pv 4)) (blkOk_by (own := [("_law_num", 11), ("_law_e", 12)]) (N := ["_law_script", "_law_cell", "_law_source", "_law_many", "_law_one", "_law_other", "_law_turn", "_law_c", "_law_often", "_law_numbers", "_law_nought", "_law_num", "_law_e", "_law_k", "_law_number"]) (sc := defScope s_law) (by decide +kernel)) (fun _ _ _ _ _ => (pg_tup rfl (pgs_cons (pg_name (i := 11) sc_law.nd rfl (.inl rfl)) (pgs_cons (pg_name (i := 12) sc_law.nd rfl (.inl rfl)) pgs_nil)))) (fun _ _ _ _ _ => pts_nil) (fun _ _ _ _ _ => (pe_callH h__law_part (hr.mono (by decide)) (by rfl) (pa_cons (pe_op op_mulA (pv 11) (pv 8)) (pa_cons (pv 12) pa_nil))))) pa_nil)) (nomark _))
    (pss_one (ps_ret pe_bl))
    pss_nil)
  (pss_cons (ps_if (PW.pt (pw_or (pt_cmpR (op_neDE K hr.units) (pe_callH h_row_less (hr.mono (by decide)) (by rfl) (pa_cons (pv 4) (pa_cons (pv 4) pa_nil))) (pe_op (op_repTE K) (pe_tup (pa_cons (pe_tup (pa_cons pe_int (pa_cons pe_int pa_nil))) pa_nil)) (pv 3)) (nomark _)) (pw_or1 (pt_not (pt_val (pe_callB (call_isiE K) (by rfl) m_isinstance (by decide +kernel) (pa_cons (pe_callH h_row_plus (hr.mono (by decide)) (by rfl) (pa_cons (pv 4) (pa_cons (pv 5) pa_nil))) (pa_cons (pe_bltn (v := .ty "tuple") (by rfl) m_tuple (by decide +kernel) rfl) pa_nil))))))))
    (pss_one (ps_ret pe_bl))
    pss_nil)
  (pss_cons (ps_set (i := 9) sc_law.nd rfl (.inl rfl) (pe_callTy (call_tupleE K) (by rfl) m_tuple (by decide +kernel) (pa_cons (pe_lc (own := [("_law_k", 13)]) (g := (gName 13)) (by rfl) sc_law.nd (pi_range1 (by rfl) m_range (pa_cons (pe_op op_sub (pv 3) pe_int) pa_nil)) (blkOk_by (own := [("_law_k", 13)]) (N := ["_law_script", "_law_cell", "_law_source", "_law_many", "_law_one", "_law_other", "_law_turn", "_law_c", "_law_often", "_law_numbers", "_law_nought", "_law_num", "_law_e", "_law_k", "_law_number"]) (sc := defScope s_law) (by decide +kernel)) (fun _ _ _ _ _ => (pg_name (i := 13) sc_law.nd rfl (.inl rfl))) (fun _ _ _ _ _ => pts_nil) (fun _ _ _ _ _ => (pe_callH h__law_far (hr.mono (by decide)) (by rfl) (pa_cons (pv 2) pa_nil)))) pa_nil)))
  (pss_cons (ps_if (pt_cmpR (op_neDE K hr.units) (pe_callH h_own_row (hr.mono (by decide)) (by rfl) (pa_cons (pv 9) pa_nil)) (pe_callTy (call_tupleE K) (by rfl) m_tuple (by decide +kernel) (pa_cons (pe_op op_cat (pe_lc (own := [("_law_number", 14)]) (g := (gName 14)) (by rfl) sc_law.nd (pi_tupE K (pv 9)) (blkOk_by (own := [("_law_number", 14)]) (N := ["_law_script", "_law_cell", "_law_source", "_law_many", "_law_one", "_law_other", "_law_turn", "_law_c", "_law_often", "_law_numbers", "_law_nought", "_law_num", "_law_e", "_law_k", "_law_number"]) (sc := defScope s_law) (by decide +kernel)) (fun _ _ _ _ _ => (pg_name (i := 14) sc_law.nd rfl (.inl rfl))) (fun _ _ _ _ _ => pts_nil) (fun _ _ _ _ _ => (pe_tup (pa_cons (pv 14) (pa_cons pe_int pa_nil))))) (pe_lst (pa_cons (pe_tup (pa_cons pe_int (pa_cons pe_int pa_nil))) pa_nil))) pa_nil)) (nomark _))
    (pss_one (ps_ret pe_bl))
    pss_nil)
  (pss_cons (ps_set (i := 10) sc_law.nd rfl (.inl rfl) (pe_callH h_zero_row (hr.mono (by decide)) (by rfl) (pa_cons (pe_op op_sub (pv 3) pe_int) pa_nil)))
  (pss_one (ps_if (PW.pt (pw_or (pt_cmpR (op_neDE K hr.units) (pv 10) (pe_op (op_repTE K) (pe_tup (pa_cons (pe_tup (pa_cons pe_int (pa_cons pe_int pa_nil))) pa_nil)) (pv 3)) (nomark _)) (pw_or1 (pt_cmpR (op_neDE K hr.units) (pe_callH h_row_plus (hr.mono (by decide)) (by rfl) (pa_cons (pe_callH h_own_row (hr.mono (by decide)) (by rfl) (pa_cons (pv 9) pa_nil)) (pa_cons (pv 10) pa_nil))) (pe_callH h_own_row (hr.mono (by decide)) (by rfl) (pa_cons (pv 9) pa_nil)) (nomark _)))))
    (pss_one (ps_ret pe_bl))
    pss_nil))))))))))))))))
  (pss_one (ps_ret (pe_and (pe_cmpR (op_eqDE K hr.units) (pe_callH h_own_row (hr.mono (by decide)) (by rfl) (pa_cons (pe_tup (pa_cons pe_int pa_nil)) pa_nil)) (pe_tup (pa_cons (pe_tup (pa_cons pe_int (pa_cons pe_int pa_nil))) (pa_cons (pe_tup (pa_cons pe_int (pa_cons pe_int pa_nil))) pa_nil))) (nomark _)) (pe_one (pe_cmpR (op_eqDE K hr.units) (pe_callH h_zero_row (hr.mono (by decide)) (by rfl) (pa_cons pe_int pa_nil)) (pe_tup (pa_cons (pe_tup (pa_cons pe_int (pa_cons pe_int pa_nil))) (pa_cons (pe_tup (pa_cons pe_int (pa_cons pe_int pa_nil))) pa_nil))) (nomark _))))))), ?_⟩
  walk_at "zz"
  refine ⟨a, ns, 0, rfl, hS, hlen, fun c0 => ?_⟩
  walk_at "zz"
  refine z_new (by simp) (fun p1 H1 n1 s1 h1 => ?_)
  walk_at "zz"
  refine z_slL (s1.seq hS) (fun p2 H2 n2 s2 h2 => ?_)
  obtain ⟨cs, hcs, hcl⟩ := cells (some 1) (some 12) hlen
  rw [hcs] at h2
  refine z_cat (s2 _ _ h1) h2 (by simp; omega) (fun p3 H3 n3 s3 h3 => ?_)
  have e3 := s1.trans (s2.trans s3)
  refine ⟨p3, rfl, ⟨_, SqL.of h3⟩, for_list (xs := (c0 :: cs).map V.int) (fun i σ H' => (∃ y1 y2 y3 y4 y5 y6 y7 y8 y9 y10 y11 y12 y13 y14, σ = [some (.ref a), y1, y2, y3, y4, y5, y6, y7, y8, y9, y10, y11, y12, y13, y14]) ∧ H' p3 = some (.lst ((c0 :: cs).map V.int)) ∧ ∀ p ∈ Ps, GxR.TabG H' p) ⟨⟨_, _, _, _, _, _, _, _, _, _, _, _, _, _, rfl⟩, h3, fun p hp => tg_same (tt0 p hp) e3⟩ (fun i σ H' _ h => SqL.of h.2.1) ?_ ?_⟩
  · rintro i v σ H4 hv ⟨⟨y1, y2, y3, y4, y5, y6, y7, y8, y9, y10, y11, y12, y13, y14, rfl⟩, h4, tt4⟩
    obtain ⟨c, rfl⟩ := cell_at hv
    walk_at "zz"
    refine ⟨c, rfl, fun s5 H5 n5 e5 r5 => ?_⟩
    have h5 := e5 _ _ h4
    have ne5 : p3 ≠ s5 := ne_of_none h4 n5
    have L5 : Ls s5 Ps H5 H5 := Ls.refl r5 fun p hp => tg_same (tt4 p hp) e5
    walk_at "zz"
    refine ⟨s5, _, rfl, by decide, by decide +kernel, r5, fun rm H6 rm0 rm1 d6 => ?_⟩
    obtain ⟨n, en, hn2, hn9⟩ : ∃ n : Nat, 2 + rm = (n : Int) ∧ 2 ≤ n ∧ n ≤ 9 := ⟨(2 + rm).toNat, by omega, by omega, by omega⟩
    have L6 := L5.dr d6
    walk_at "zz"
    rw [en]
    refine ⟨s5, n, rfl, by omega, L6.src, fun q1 ds H7 hds bds R7 d7 => ?_⟩
    have L7 := L6.dr d7
    walk_at "zz"
    refine ⟨s5, n, rfl, by omega, L7.src, fun q2 es2 H8 hes2 bes2 R8 d8 => ?_⟩
    have L78 : Ls s5 Ps H7 H8 := (Ls.refl L7.src L7.tt).dr d8
    walk_at "zz"
    refine z_new (by simp) (fun l9 H9 n9 e9 h9 => ?_)
    walk_at "zz"
    refine ⟨s5, _, rfl, by decide, by decide +kernel, L78.src.same e9, fun x10 H10 x100 x101 d10 => ?_⟩
    have L8 : Ls s5 Ps H8 H10 := ((Ls.refl L78.src L78.tt).same e9).dr d10
    walk_at "zz"
    refine z_fdivA (divA (n := 4) (by decide) (by decide) (by decide) (by decide)) ?_
    have h910 := d10.keep _ _ (L78.src.ne n9) h9
    have R1 : RowA H10 q1 ds := L8.row (L78.row R7)
    obtain ⟨q3, es, hpick, hes, bes, R3⟩ : ∃ q3 es, atI [V.ref q2, V.ref q1] (x10.fdiv 4) = some (.ref q3) ∧ es.length = n ∧ Bd 200 es ∧ RowA H10 q3 es := by
      rcases (show x10 = 0 ∨ x10 = 1 ∨ x10 = 2 ∨ x10 = 3 ∨ x10 = 4 by omega) with rfl | rfl | rfl | rfl | rfl
      · exact ⟨_, _, rfl, hes2, bes2, L8.row R8⟩
      · exact ⟨_, _, rfl, hes2, bes2, L8.row R8⟩
      · exact ⟨_, _, rfl, hes2, bes2, L8.row R8⟩
      · exact ⟨_, _, rfl, hes2, bes2, L8.row R8⟩
      · exact ⟨_, _, rfl, hds, bds, R1⟩
    refine z_ixL (SqL.of h910) hpick ?_
    have h10 := (L7.trans (L78.trans L8)).lst ne5 h5
    have L10 : Ls s5 Ps H10 H10 := Ls.refl L8.src L8.tt
    walk_at "zz"
    refine ⟨_, rfl, by decide, by decide, for_range (lo := 0) (n := 2) (fun i σ H' => (∃ y6, σ = [some (.ref a), some (.int c), some (.ref s5), some (.int (n : Int)), some (.ref q1), some (.ref q3), y6, y7, y8, y9, y10, y11, y12, y13, y14]) ∧ Ls s5 Ps H10 H') ⟨⟨_, rfl⟩, L10⟩ ?_ ?_⟩
    · rintro i σ H11 hi ⟨⟨y6, rfl⟩, L11⟩
      walk_at "zz"
      refine ⟨q1, q3, ds, es, 200, rfl, by decide, L11.row R1, L11.row R3, by omega, by omega, bds, bes, L11.tt _ i2, fun r1 H12 k12 w12 => ?_⟩
      have L12 := L11.kt k12 i2
      walk_at "zz"
      refine ⟨q1, q3, ds, es, 1, 200, rfl, by decide, L12.row R1, L12.row R3, by omega, by omega, bds, bes, .inl rfl, fun r2 H13 e13 w13 => ?_⟩
      refine z_neRow (w12.kp (Kp.of_same e13)) w13 (by rw [joined_plus]) ?_
      have L13 := L12.same e13
      walk_at "zz"
      refine ⟨q1, q3, ds, es, 200, rfl, by decide, L13.row R1, L13.row R3, by omega, by omega, bds, bes, L13.tt _ i3, fun r3 H14 k14 w14 => ?_⟩
      have L14 := L13.kt k14 i3
      walk_at "zz"
      refine ⟨q1, q3, ds, es, -1, 200, rfl, by decide, L14.row R1, L14.row R3, by omega, by omega, bds, bes, .inr rfl, fun r4 H15 e15 w15 => ?_⟩
      refine z_neRow (w14.kp (Kp.of_same e15)) w15 (by rw [joined_less]) ?_
      walk_at "zz"
      exact ⟨⟨_, rfl⟩, L14.same e15⟩
    · rintro σ H11 ⟨⟨y6, rfl⟩, L11⟩
      walk_at "zz"
      refine ⟨s5, _, rfl, by decide, by decide +kernel, L11.src, fun x12 H12 x120 x121 d12 => ?_⟩
      have L12 := L11.dr d12
      walk_at "zz"
      refine z_new (by simp) (fun l13 H13 n13 e13 h13 => ?_)
      have L13 := L12.same e13
      walk_at "zz"
      refine ⟨s5, _, rfl, by decide, by decide +kernel, L13.src, fun x14 H14 x140 x141 d14 => ?_⟩
      have L14 := L13.dr d14
      have h1314 := d14.keep _ _ (L12.src.ne n13) h13
      obtain ⟨cc, hpick2, hcc⟩ : ∃ cc : Nat, atI [V.int 0, V.int 1, V.int 2, V.int x12] x14 = some (.int (cc : Int)) ∧ cc ≤ 100 := by
        rcases (show x14 = 0 ∨ x14 = 1 ∨ x14 = 2 ∨ x14 = 3 by omega) with rfl | rfl | rfl | rfl
        · exact ⟨0, rfl, by decide⟩
        · exact ⟨1, rfl, by decide⟩
        · exact ⟨2, rfl, by decide⟩
        · exact ⟨x12.toNat, by rw [show ((x12.toNat : Nat) : Int) = x12 by omega]; rfl, by omega⟩
      refine z_ixL (SqL.of h1314) hpick2 ?_
      walk_at "zz"
      refine ⟨q1, ds, cc, rfl, L14.row R1, by omega, L14.tt _ i4, fun r15 H15 k15 w15 => ?_⟩
      have L15 := L14.kt k15 i4
      obtain ⟨xs, hx15, ax15⟩ := L15.row R1
      have lx := ax15.len
      walk_at "zz"
      refine ⟨_, rfl, q1, rfl, ⟨_, SqT.of hx15⟩, fun Dl nD => lc_tup (xs := xs) (fun i H' => Same H15 H' ∧ ∃ acc, H' Dl = some (.lst acc) ∧ PtsAll H' acc ((ds.map (halfF cc)).take i)) ⟨same_upd nD, [], upd_same, trivial⟩ (fun i H' _ h => SqT.of (h.1 _ _ hx15)) ?_ ?_⟩
      · rintro j x H16 hx ⟨e16, acc, hD, pa⟩
        obtain ⟨d, hd, u, rfl, hu⟩ := ax15.get hx
        refine z_gTup (SqT.of (e16 _ _ hu)) rfl ?_
        walk_at "zz"
        refine ⟨rfl, ?_⟩
        walk_at "zz"
        refine ⟨d.1, d.2 + cc, by rw [Int.natCast_add]; rfl, fun r H17 nr e17 hr => ?_⟩
        have hlen2 := pa.len
        have hj : j < xs.length := (List.getElem?_eq_some_iff.mp hx).1
        refine ⟨acc, e17 _ _ hD, small1000 (by rw [hlen2, List.length_take]; omega), fun b o hb => by rw [upd_ne (ne_of_none hb nD)]; exact e17 _ _ (e16 _ _ hb), _, upd_same, ?_⟩
        have ez : (ds.map (halfF cc))[j]? = some (halfF cc d) := by
          rw [List.getElem?_map, hd]
          rfl
        rw [List.take_add_one, ez]
        exact PtsAll.updL (e17 _ _ hD) ((pa.kp (Kp.of_same e17)).snoc ⟨r, rfl, hr⟩)
      rintro H16 ⟨e16, acc, hD, pa⟩
      rw [List.take_of_length_le (by rw [List.length_map]; omega)] at pa
      walk_at "zz"
      refine z_tupleL hD (fun r17 H17 n17 e17 h17 => ?_)
      refine z_neRow (w15.kp (Kp.of_same (e16.trans e17))) ⟨_, h17, pa.kp (Kp.of_same e17)⟩ rfl ?_
      have L17 := L15.same (e16.trans e17)
      walk_at "zz"
      refine ⟨s5, rfl, L17.src, fun num H18 hnum d18 => ?_⟩
      have L18 := L17.dr d18
      walk_at "zz"
      refine ⟨q1, ds, num, 200, rfl, L18.row R1, by omega, by decide, bds, hnum, L18.tt _ i5, fun r19 H19 k19 w19 => ?_⟩
      have L19 := L18.kt k19 i5
      obtain ⟨xs9, hx19, ax19⟩ := L19.row R1
      have lx9 := ax19.len
      walk_at "zz"
      refine ⟨_, rfl, q1, rfl, ⟨_, SqT.of hx19⟩, fun Dl nD => lc_tup (xs := xs9) (fun i H' => Same H19 H' ∧ ∃ acc, H' Dl = some (.lst acc) ∧ PtsAll H' acc ((ds.map (timesF num)).take i)) ⟨same_upd nD, [], upd_same, trivial⟩ (fun i H' _ h => SqT.of (h.1 _ _ hx19)) ?_ ?_⟩
      · rintro j x H20 hx ⟨e20, acc, hD, pa⟩
        obtain ⟨d, hd, u, rfl, hu⟩ := ax19.get hx
        refine z_gTup (SqT.of (e20 _ _ hu)) rfl ?_
        walk_at "zz"
        refine ⟨rfl, ?_⟩
        walk_at "zz"
        refine z_mulA (b_mul (bds d (List.mem_of_getElem? hd)).1 hnum (by decide)) ?_
        walk_at "zz"
        refine ⟨d.1 * num, d.2, rfl, fun r H21 nr e21 hr => ?_⟩
        have hlen2 := pa.len
        have hj : j < xs9.length := (List.getElem?_eq_some_iff.mp hx).1
        refine ⟨acc, e21 _ _ hD, small1000 (by rw [hlen2, List.length_take]; omega), fun b o hb => by rw [upd_ne (ne_of_none hb nD)]; exact e21 _ _ (e20 _ _ hb), _, upd_same, ?_⟩
        have ez : (ds.map (timesF num))[j]? = some (timesF num d) := by
          rw [List.getElem?_map, hd]
          rfl
        rw [List.take_add_one, ez]
        exact PtsAll.updL (e21 _ _ hD) ((pa.kp (Kp.of_same e21)).snoc ⟨r, rfl, hr⟩)
      rintro H20 ⟨e20, acc9, hD9, pa9⟩
      rw [List.take_of_length_le (by rw [List.length_map]; omega)] at pa9
      walk_at "zz"
      refine z_tupleL hD9 (fun r21 H21 n21 e21 h21 => ?_)
      refine z_neRow (w19.kp (Kp.of_same (e20.trans e21))) ⟨_, h21, pa9.kp (Kp.of_same e21)⟩ rfl ?_
      have L21 := L19.same (e20.trans e21)
      walk_at "zz"
      refine ⟨q1, q1, ds, ds, 200, rfl, by decide, L21.row R1, L21.row R1, rfl, by omega, bds, bds, L21.tt _ i3, fun r22 H22 k22 w22 => ?_⟩
      have L22 := L21.kt k22 i3
      walk_at "zz"
      refine z_new (by simp) (fun p23 H23 n23 e23 h23 => ?_)
      walk_at "zz"
      refine z_new (by simp) (fun p24 H24 n24 e24 h24 => ?_)
      walk_at "zz"
      refine z_repT1 h24 (by omega) (by omega) (fun p25 H25 n25 e25 h25 => ?_)
      rw [Int.toNat_natCast] at h25
      have e2225 := e23.trans (e24.trans e25)
      refine z_neRow (w22.kp (Kp.of_same e2225)) ⟨_, h25, PtsAll.rep ⟨p23, rfl, e25 _ _ (e24 _ _ h23)⟩ n⟩ (by rw [less_self, hds]) ?_
      have L25 := L22.same e2225
      walk_at "zz"
      refine ⟨q1, q3, ds, es, 200, rfl, by decide, L25.row R1, L25.row R3, by omega, by omega, bds, bes, L25.tt _ i2, fun r26 H26 k26 w26 => ?_⟩
      have L26 := L25.kt k26 i2
      obtain ⟨vs26, hv26, _⟩ := w26
      walk_at "zz"
      refine z_isi (n := "tuple") (k := true) (.base (.tup hv26)) (by decide +kernel) ?_
      walk_at "zz"
      show iRng1 _ _ _ _
      walk_at "zz"
      rw [show (n : Int) - 1 = ((n - 1 : Nat) : Int) by omega]
      refine ⟨_, rfl, by omega, by omega, fun Dl nD => lc_range (lo := 0) (n := n - 1) (fun i H' => Dr s5 H26 H' ∧ ∃ ns : List Int, H' Dl = some (.lst (ns.map V.int)) ∧ ns.length = i ∧ ∀ x ∈ ns, x.natAbs < 2 ^ 200) ?_ ?_ ?_⟩
      · exact ⟨Dr.of_same L26.src (same_upd nD), [], upd_same, rfl, fun x hx => by cases hx⟩
      · rintro j H27 hj ⟨d27, ns, hD, hl, hb⟩
        refine ⟨rfl, ?_⟩
        walk_at "zz"
        refine ⟨s5, rfl, d27.src, fun x H28 hx d28 => ?_⟩
        have nDs : Dl ≠ s5 := L26.src.ne nD
        have hD28 := d28.keep _ _ nDs hD
        refine ⟨_, hD28, small1000 (by rw [List.length_map]; omega), ⟨fun b o nb hb => ?_, ?_, L26.src⟩, ns ++ [x], by rw [upd_same, List.map_append]; rfl, by simp [hl], fun y hy => ?_⟩
        · rw [upd_ne (ne_of_none hb nD)]
          exact d28.keep _ _ nb (d27.keep _ _ nb hb)
        · obtain ⟨x1, x2, x3, hz⟩ := d28.src
          exact ⟨x1, x2, x3, by rw [upd_ne nDs.symm]; exact hz⟩
        · rcases List.mem_append.mp hy with h | h
          · exact hb y h
          · rw [List.mem_singleton.mp h]; exact hx
      rintro H27 ⟨d27, ns, hDn, hnl, hnb⟩
      have L27 := L26.dr d27
      walk_at "zz"
      refine z_tupleL hDn (fun pn H28 n28 e28 h28 => ?_)
      have L28 := L27.same e28
      have LL28 : Ls s5 Ps H28 H28 := Ls.refl L28.src L28.tt
      walk_at "zz"
      refine ⟨pn, ns, rfl, h28, by omega, L28.tt _ i1, fun r29 H29 k29 w29 => ?_⟩
      have L29 := LL28.kt k29 i1
      have h29 := L29.tup h28
      walk_at "zz"
      refine ⟨_, rfl, pn, rfl, ⟨_, SqT.of h29⟩, fun Dl nD => lc_tup (xs := ns.map V.int) (fun i H' => Same H29 H' ∧ ∃ acc, H' Dl = some (.lst acc) ∧ PtsAll H' acc ((ns.map ownF).take i)) ⟨same_upd nD, [], upd_same, trivial⟩ (fun i H' _ h => SqT.of (h.1 _ _ h29)) ?_ ?_⟩
      · rintro j x H30 hx ⟨e30, acc, hD, pa⟩
        rw [List.getElem?_map] at hx
        obtain ⟨y, hy, rfl⟩ := Option.map_eq_some_iff.mp hx
        refine ⟨rfl, ?_⟩
        walk_at "zz"
        refine z_new (by simp) (fun r H31 nr e31 hr => ?_)
        have hlen2 := pa.len
        have hj : j < ns.length := (List.getElem?_eq_some_iff.mp hy).1
        refine ⟨acc, e31 _ _ hD, small1000 (by rw [hlen2, List.length_take]; omega), fun b o hb => by rw [upd_ne (ne_of_none hb nD)]; exact e31 _ _ (e30 _ _ hb), _, upd_same, ?_⟩
        have ez : (ns.map ownF)[j]? = some (ownF y) := by
          rw [List.getElem?_map, hy]
          rfl
        rw [List.take_add_one, ez]
        exact PtsAll.updL (e31 _ _ hD) ((pa.kp (Kp.of_same e31)).snoc ⟨r, rfl, hr⟩)
      rintro H30 ⟨e30, acc30, hD30, pa30⟩
      rw [List.take_of_length_le (by rw [List.length_map, List.length_map]; omega)] at pa30
      have hl30 := pa30.len
      rw [List.length_map] at hl30
      walk_at "zz"
      refine z_new (by simp) (fun p31 H31 n31 e31 h31 => ?_)
      walk_at "zz"
      refine z_new (by simp) (fun p32 H32 n32 e32 h32 => ?_)
      have e3032 := e31.trans e32
      refine z_cat (e3032 _ _ hD30) h32 (by simp; omega) (fun p33 H33 n33 e33 h33 => ?_)
      walk_at "zz"
      refine z_tupleL h33 (fun p34 H34 n34 e34 h34 => ?_)
      have e3134 := e32.trans (e33.trans e34)
      have e3034 := e31.trans e3134
      refine z_neRow (w29.kp (Kp.of_same (e30.trans e3034))) ⟨_, h34, PtsAll.app (es := [((1 : Int), (0 : Nat))]) (pa30.kp (Kp.of_same e3034)) ⟨⟨p31, rfl, e3134 _ _ h31⟩, trivial⟩⟩ rfl ?_
      have L34 := L29.same (e30.trans e3034)
      walk_at "zz"
      rw [show (n : Int) - 1 = ((n - 1 : Nat) : Int) by omega]
      refine ⟨n - 1, rfl, by omega, by omega, fun r35 H35 e35 w35 => ?_⟩
      rw [show n - 1 + 1 = n by omega] at w35
      walk_at "zz"
      refine z_new (by simp) (fun p36 H36 n36 e36 h36 => ?_)
      walk_at "zz"
      refine z_new (by simp) (fun p37 H37 n37 e37 h37 => ?_)
      walk_at "zz"
      refine z_repT1 h37 (by omega) (by omega) (fun p38 H38 n38 e38 h38 => ?_)
      rw [Int.toNat_natCast] at h38
      have e3538 := e36.trans (e37.trans e38)
      have w38 := w35.kp (Kp.of_same e3538)
      refine z_neRow w38 ⟨_, h38, PtsAll.rep ⟨p36, rfl, e38 _ _ (e37 _ _ h36)⟩ n⟩ rfl ?_
      have L38 := L34.same (e35.trans e3538)
      walk_at "zz"
      refine ⟨pn, ns, rfl, L38.tup h28, by omega, L38.tt _ i1, fun r39 H39 k39 w39 => ?_⟩
      have L39 := L38.kt k39 i1
      walk_at "zz"
      have hm200 : ∀ d ∈ (ns.map ownF ++ [(1, 0)] : List Zk.Pt), (d.1.natAbs < 2 ^ 200 ∧ d.2 ≤ 200) ∧ d.2 = 0 := by
        intro d hd
        rcases List.mem_append.mp hd with h | h
        · obtain ⟨y, hy, rfl⟩ := List.mem_map.mp h
          exact ⟨⟨hnb y hy, Nat.zero_le _⟩, rfl⟩
        · rw [List.mem_singleton.mp h]
          exact ⟨⟨by decide +kernel, by decide⟩, rfl⟩
      refine ⟨r39, r35, _, _, 200, rfl, by decide, w39, w38.kp (k39.kp (L38.tt _ i1)), by simp; omega, by simp; omega, fun d hd => (hm200 d hd).1, fun d hd => ?_, L39.tt _ i2, fun r40 H40 k40 w40 => ?_⟩
      · rw [List.eq_of_mem_replicate hd]
        exact ⟨by decide +kernel, by decide⟩
      rw [plus_zero _ _ (by simp; omega) fun d hd => (hm200 d hd).2] at w40
      have L40 := L39.kt k40 i2
      walk_at "zz"
      refine ⟨pn, ns, rfl, L40.tup h28, by omega, L40.tt _ i1, fun r41 H41 k41 w41 => ?_⟩
      refine z_neRow (w40.kp (k41.kp (L40.tt _ i1))) w41 rfl ?_
      have L41 := L40.kt k41 i1
      walk_at "zz"
      exact ⟨⟨_, _, _, _, _, _, _, _, _, _, _, _, _, _, rfl⟩, (L28.trans L41).lst ne5 h10, L41.tt⟩
  · rintro σ H4 ⟨⟨y1, y2, y3, y4, y5, y6, y7, y8, y9, y10, y11, y12, y13, y14, rfl⟩, h4, tt4⟩
    walk_at "zz"
    refine z_new (by simp) (fun p5 H5 n5 e5 h5 => ?_)
    walk_at "zz"
    refine ⟨p5, [7], rfl, h5, by decide, tg_same (tt4 _ i1) e5, fun r6 H6 k6 w6 => ?_⟩
    walk_at "zz"
    refine z_new (by simp) (fun p7 H7 n7 e7 h7 => ?_)
    walk_at "zz"
    refine z_new (by simp) (fun p8 H8 n8 e8 h8 => ?_)
    walk_at "zz"
    refine z_new (by simp) (fun p9 H9 n9 e9 h9 => ?_)
    refine z_eqRow (ds := [7].map ownF ++ [(1, 0)]) (es := [(7, 0), (1, 0)]) (w6.kp (Kp.of_same (e7.trans (e8.trans e9)))) ⟨_, h9, ⟨p7, rfl, e9 _ _ (e8 _ _ h7)⟩, ⟨p8, rfl, e9 _ _ h8⟩, trivial⟩ rfl ?_
    walk_at "zz"
    refine ⟨1, rfl, by decide, by decide, fun r10 H10 e10 w10 => ?_⟩
    walk_at "zz"
    refine z_new (by simp) (fun p11 H11 n11 e11 h11 => ?_)
    walk_at "zz"
    refine z_new (by simp) (fun p12 H12 n12 e12 h12 => ?_)
    walk_at "zz"
    refine z_new (by simp) (fun p13 H13 n13 e13 h13 => ?_)
    exact z_eqRow (es := [(0, 0), (0, 0)]) (w10.kp (Kp.of_same (e11.trans (e12.trans e13)))) ⟨_, h13, ⟨p11, rfl, e13 _ _ (e12 _ _ h11)⟩, ⟨p12, rfl, e13 _ _ h12⟩, trivial⟩ rfl (q _)
end
/-! ### the head: facts by names, the run -/
def d_part : He.DefD := ⟨("part", none), "part", "part", defArgs (topS 1), defBody (topS 1), defScope (topS 1), [], []⟩
def d_part_plus : He.DefD := ⟨("part_plus", none), "part_plus", "part_plus", defArgs (topS 2), defBody (topS 2), defScope (topS 2), [], []⟩
def d_part_less : He.DefD := ⟨("part_less", none), "part_less", "part_less", defArgs (topS 3), defBody (topS 3), defScope (topS 3), [], []⟩
def d_own_row : He.DefD := ⟨("own_row", none), "own_row", "own_row", defArgs (topS 4), defBody (topS 4), defScope (topS 4), [], []⟩
def d_zero_row : He.DefD := ⟨("zero_row", none), "zero_row", "zero_row", defArgs (topS 5), defBody (topS 5), defScope (topS 5), [], []⟩
def d_row_plus : He.DefD := ⟨("row_plus", none), "row_plus", "row_plus", defArgs (topS 6), defBody (topS 6), defScope (topS 6), [], []⟩
def d_row_less : He.DefD := ⟨("row_less", none), "row_less", "row_less", defArgs (topS 7), defBody (topS 7), defScope (topS 7), [], []⟩
def d_row_halved : He.DefD := ⟨("row_halved", none), "row_halved", "row_halved", defArgs (topS 8), defBody (topS 8), defScope (topS 8), [], []⟩
def d_row_times : He.DefD := ⟨("row_times", none), "row_times", "row_times", defArgs (topS 9), defBody (topS 9), defScope (topS 9), [], []⟩
def d__law_cell_at : He.DefD := ⟨("_law_cell_at", none), "_law_cell_at", "_law_cell_at", defArgs (topS 11), defBody (topS 11), defScope (topS 11), [], []⟩
def d__law_begin : He.DefD := ⟨("_law_begin", none), "_law_begin", "_law_begin", defArgs (topS 12), defBody (topS 12), defScope (topS 12), [], []⟩
def d__law_draw : He.DefD := ⟨("_law_draw", none), "_law_draw", "_law_draw", defArgs (topS 13), defBody (topS 13), defScope (topS 13), [], []⟩
def d__law_far : He.DefD := ⟨("_law_far", none), "_law_far", "_law_far", defArgs (topS 14), defBody (topS 14), defScope (topS 14), [], []⟩
def d__law_part : He.DefD := ⟨("_law_part", none), "_law_part", "_law_part", defArgs (topS 15), defBody (topS 15), defScope (topS 15), [], []⟩
def d__law_joined : He.DefD := ⟨("_law_joined", none), "_law_joined", "_law_joined", defArgs (topS 16), defBody (topS 16), defScope (topS 16), [], []⟩
def d__law_row : He.DefD := ⟨("_law_row", none), "_law_row", "_law_row", defArgs (topS 17), defBody (topS 17), defScope (topS 17), [], []⟩
def d_law : He.DefD := ⟨("law", none), "law", "law", defArgs (topS 18), defBody (topS 18), defScope (topS 18), [], []⟩
def fn : List He.DefD := [d_part, d_part_plus, d_part_less, d_own_row, d_zero_row, d_row_plus, d_row_less, d_row_halved, d_row_times, d__law_cell_at, d__law_begin, d__law_draw, d__law_far, d__law_part, d__law_joined, d__law_row, d_law]
def fa : List He.Fa := [.glo "part", .glo "part_plus", .glo "part_less", .glo "own_row", .glo "zero_row", .glo "row_plus", .glo "row_less", .glo "row_halved", .glo "row_times", .glo "_law_cell_at", .glo "_law_begin", .glo "_law_draw", .glo "_law_far", .glo "_law_part", .glo "_law_joined", .glo "_law_row", .glo "law", .free "isinstance", .free "tuple", .free "len", .free "range", .free "zip", .free "min", .free "max", .free "int"]
abbrev R : PySem.W.OpenRow := PySem.W.OpenLaw.row PySem.Challenge.rw_sumtold_k06_rows
def tf : List He.Defn := [("own_row", none), ("row_plus", none), ("row_less", none), ("row_halved", none), ("row_times", none)]
abbrev hk : PySem.W.Hook := He.hookX 19 fa fn [] tf (fun _ => true)
def ob (s : PySem.W.SharedT) : He.AlX := He.obsX 19 fa fn [] tf (fun _ => true) (HandSHeadRun.getT s)
theorem ob_eq (s : PySem.W.SharedT) : ob s = hk.obs s.abs := He.obsX_eq (HandSHeadRun.getT_eq s)
theorem run (w : World) : HandSHeadRun.RunEq R (PySem.W.view R.prog [18]) hk ob 1500 ["part", "part_plus", "part_less", "own_row", "zero_row", "row_plus", "row_less", "row_halved", "row_times", "_law_cell_at", "_law_begin", "_law_draw", "_law_far", "_law_part", "_law_joined", "_law_row"] w := by
  intro os
  kernel_rfl
theorem facts {P : Program} {w : World} {K : PySem.W.Frag} {h : Heap} {mg : Str → Option Value} {f : Addr} (X : K.In h) (G : h.Ns mainGlobals mg) (hfa : mg ("law" : Str) = some (.ref f)) (c : He.SaysD fa fn K) :
    ∃ fd : FuncData, (∀ (s : Shared) (v : Value), BindsTo s fd ⟨[v], []⟩ [("_law_script", v)]) ∧ ∀ base : Heap, K.In base → base.Ns mainGlobals mg → (∀ p ∈ tf, LamX.TabB base mg (He.cT K p).1 (He.cT K p).2) → FnOk P w K mg base CX0 11 f fd ["_law_script"] (spLaw K (He.cT K ("own_row", none)).2 (He.cT K ("row_plus", none)).2 (He.cT K ("row_less", none)).2 (He.cT K ("row_halved", none)).2 (He.cT K ("row_times", none)).2) := by
  obtain ⟨fd_part, F_part⟩ := c.def_ 0 (d := d_part) rfl
  obtain ⟨fd_part_plus, F_part_plus⟩ := c.def_ 1 (d := d_part_plus) rfl
  obtain ⟨fd_part_less, F_part_less⟩ := c.def_ 2 (d := d_part_less) rfl
  obtain ⟨fd_own_row, F_own_row⟩ := c.def_ 3 (d := d_own_row) rfl
  obtain ⟨fd_zero_row, F_zero_row⟩ := c.def_ 4 (d := d_zero_row) rfl
  obtain ⟨fd_row_plus, F_row_plus⟩ := c.def_ 5 (d := d_row_plus) rfl
  obtain ⟨fd_row_less, F_row_less⟩ := c.def_ 6 (d := d_row_less) rfl
  obtain ⟨fd_row_halved, F_row_halved⟩ := c.def_ 7 (d := d_row_halved) rfl
  obtain ⟨fd_row_times, F_row_times⟩ := c.def_ 8 (d := d_row_times) rfl
  obtain ⟨fd__law_cell_at, F__law_cell_at⟩ := c.def_ 9 (d := d__law_cell_at) rfl
  obtain ⟨fd__law_begin, F__law_begin⟩ := c.def_ 10 (d := d__law_begin) rfl
  obtain ⟨fd__law_draw, F__law_draw⟩ := c.def_ 11 (d := d__law_draw) rfl
  obtain ⟨fd__law_far, F__law_far⟩ := c.def_ 12 (d := d__law_far) rfl
  obtain ⟨fd__law_part, F__law_part⟩ := c.def_ 13 (d := d__law_part) rfl
  obtain ⟨fd__law_joined, F__law_joined⟩ := c.def_ 14 (d := d__law_joined) rfl
  obtain ⟨fd__law_row, F__law_row⟩ := c.def_ 15 (d := d__law_row) rfl
  obtain ⟨fd_law, F_law⟩ := c.def_ 16 (d := d_law) rfl
  have e := hfa.symm.trans (He.glo_ok X G (c.fact 16 (f := .glo "law") rfl))
  cases e
  have g_part := He.glo_ok X G (c.fact 0 (f := .glo "part") rfl)
  have g_part_plus := He.glo_ok X G (c.fact 1 (f := .glo "part_plus") rfl)
  have g_part_less := He.glo_ok X G (c.fact 2 (f := .glo "part_less") rfl)
  have g_own_row := He.glo_ok X G (c.fact 3 (f := .glo "own_row") rfl)
  have g_zero_row := He.glo_ok X G (c.fact 4 (f := .glo "zero_row") rfl)
  have g_row_plus := He.glo_ok X G (c.fact 5 (f := .glo "row_plus") rfl)
  have g_row_less := He.glo_ok X G (c.fact 6 (f := .glo "row_less") rfl)
  have g_row_halved := He.glo_ok X G (c.fact 7 (f := .glo "row_halved") rfl)
  have g_row_times := He.glo_ok X G (c.fact 8 (f := .glo "row_times") rfl)
  have g__law_cell_at := He.glo_ok X G (c.fact 9 (f := .glo "_law_cell_at") rfl)
  have g__law_begin := He.glo_ok X G (c.fact 10 (f := .glo "_law_begin") rfl)
  have g__law_draw := He.glo_ok X G (c.fact 11 (f := .glo "_law_draw") rfl)
  have g__law_far := He.glo_ok X G (c.fact 12 (f := .glo "_law_far") rfl)
  have g__law_part := He.glo_ok X G (c.fact 13 (f := .glo "_law_part") rfl)
  have g__law_joined := He.glo_ok X G (c.fact 14 (f := .glo "_law_joined") rfl)
  have g__law_row := He.glo_ok X G (c.fact 15 (f := .glo "_law_row") rfl)
  have m_isinstance := He.free_ok X G (c.fact 17 (f := .free "isinstance") rfl)
  have m_tuple := He.free_ok X G (c.fact 18 (f := .free "tuple") rfl)
  have m_len := He.free_ok X G (c.fact 19 (f := .free "len") rfl)
  have m_range := He.free_ok X G (c.fact 20 (f := .free "range") rfl)
  have m_zip := He.free_ok X G (c.fact 21 (f := .free "zip") rfl)
  have m_min := He.free_ok X G (c.fact 22 (f := .free "min") rfl)
  have m_max := He.free_ok X G (c.fact 23 (f := .free "max") rfl)
  have m_int := He.free_ok X G (c.fact 24 (f := .free "int") rfl)
  have b_part : Binds K fd_part ["num", "e"] [] := F_part.bindsN fun _ _ _ _ _ _ us hl => match us, hl with | [_, _], _ => rfl
  have b_part_plus : Binds K fd_part_plus ["one", "other"] [] := F_part_plus.bindsN fun _ _ _ _ _ _ us hl => match us, hl with | [_, _], _ => rfl
  have b_part_less : Binds K fd_part_less ["one", "other"] [] := F_part_less.bindsN fun _ _ _ _ _ _ us hl => match us, hl with | [_, _], _ => rfl
  have b_own_row : Binds K fd_own_row ["numbers"] [] := F_own_row.bindsN fun _ _ _ _ _ _ us hl => match us, hl with | [_], _ => rfl
  have b_zero_row : Binds K fd_zero_row ["many"] [] := F_zero_row.bindsN fun _ _ _ _ _ _ us hl => match us, hl with | [_], _ => rfl
  have b_row_plus : Binds K fd_row_plus ["one", "other"] [] := F_row_plus.bindsN fun _ _ _ _ _ _ us hl => match us, hl with | [_, _], _ => rfl
  have b_row_less : Binds K fd_row_less ["one", "other"] [] := F_row_less.bindsN fun _ _ _ _ _ _ us hl => match us, hl with | [_, _], _ => rfl
  have b_row_halved : Binds K fd_row_halved ["row", "c"] [] := F_row_halved.bindsN fun _ _ _ _ _ _ us hl => match us, hl with | [_, _], _ => rfl
  have b_row_times : Binds K fd_row_times ["row", "many"] [] := F_row_times.bindsN fun _ _ _ _ _ _ us hl => match us, hl with | [_, _], _ => rfl
  have b__law_cell_at : Binds K fd__law_cell_at ["_law_script", "_law_k"] [] := F__law_cell_at.bindsN fun _ _ _ _ _ _ us hl => match us, hl with | [_, _], _ => rfl
  have b__law_begin : Binds K fd__law_begin ["_law_cell"] [] := F__law_begin.bindsN fun _ _ _ _ _ _ us hl => match us, hl with | [_], _ => rfl
  have b__law_draw : Binds K fd__law_draw ["_law_source", "_law_most"] [] := F__law_draw.bindsN fun _ _ _ _ _ _ us hl => match us, hl with | [_, _], _ => rfl
  have b__law_far : Binds K fd__law_far ["_law_source"] [] := F__law_far.bindsN fun _ _ _ _ _ _ us hl => match us, hl with | [_], _ => rfl
  have b__law_part : Binds K fd__law_part ["_law_num", "_law_e"] [] := F__law_part.bindsN fun _ _ _ _ _ _ us hl => match us, hl with | [_, _], _ => rfl
  have b__law_joined : Binds K fd__law_joined ["_law_one", "_law_other", "_law_sign"] [] := F__law_joined.bindsN fun _ _ _ _ _ _ us hl => match us, hl with | [_, _, _], _ => rfl
  have b__law_row : Binds K fd__law_row ["_law_source", "_law_many"] [] := F__law_row.bindsN fun _ _ _ _ _ _ us hl => match us, hl with | [_, _], _ => rfl
  have b_law := FunD.bindsA (ps := ["_law_script"]) F_law fun _ _ _ _ _ _ us hl => match us, hl with | [_], _ => rfl
  refine ⟨fd_law, fun s v => b_law s [v] rfl, fun base _ _ TBs => ?_⟩
  have T_own_row : GxR.TabB base mg (He.cT K ("own_row", none)).1 (He.cT K ("own_row", none)).2 := by
    have t := TBs ("own_row", none) (by simp [tf])
    exact ⟨t.code, t.bm, t.gP⟩
  have k_own_row : fd_own_row.code = .ref (He.cT K ("own_row", none)).1 := code_at (p := ("own_row", none)) F_own_row
  have T_row_plus : GxR.TabB base mg (He.cT K ("row_plus", none)).1 (He.cT K ("row_plus", none)).2 := by
    have t := TBs ("row_plus", none) (by simp [tf])
    exact ⟨t.code, t.bm, t.gP⟩
  have k_row_plus : fd_row_plus.code = .ref (He.cT K ("row_plus", none)).1 := code_at (p := ("row_plus", none)) F_row_plus
  have T_row_less : GxR.TabB base mg (He.cT K ("row_less", none)).1 (He.cT K ("row_less", none)).2 := by
    have t := TBs ("row_less", none) (by simp [tf])
    exact ⟨t.code, t.bm, t.gP⟩
  have k_row_less : fd_row_less.code = .ref (He.cT K ("row_less", none)).1 := code_at (p := ("row_less", none)) F_row_less
  have T_row_halved : GxR.TabB base mg (He.cT K ("row_halved", none)).1 (He.cT K ("row_halved", none)).2 := by
    have t := TBs ("row_halved", none) (by simp [tf])
    exact ⟨t.code, t.bm, t.gP⟩
  have k_row_halved : fd_row_halved.code = .ref (He.cT K ("row_halved", none)).1 := code_at (p := ("row_halved", none)) F_row_halved
  have T_row_times : GxR.TabB base mg (He.cT K ("row_times", none)).1 (He.cT K ("row_times", none)).2 := by
    have t := TBs ("row_times", none) (by simp [tf])
    exact ⟨t.code, t.bm, t.gP⟩
  have k_row_times : fd_row_times.code = .ref (He.cT K ("row_times", none)).1 := code_at (p := ("row_times", none)) F_row_times
  have h_part : Has P w K mg base _ "part" _ _ := ⟨_, fd_part, ok_part (P := P) (w := w) (base := base) F_part m_min, F_part.kp, b_part, g_part⟩
  have h_part_plus : Has P w K mg base _ "part_plus" _ _ := ⟨_, fd_part_plus, ok_part_plus (P := P) (w := w) (base := base) F_part_plus m_max h_part, F_part_plus.kp, b_part_plus, g_part_plus⟩
  have h_part_less : Has P w K mg base _ "part_less" _ _ := ⟨_, fd_part_less, ok_part_less (P := P) (w := w) (base := base) F_part_less h_part_plus, F_part_less.kp, b_part_less, g_part_less⟩
  have h_own_row : Has P w K mg base _ "own_row" _ _ := ⟨_, fd_own_row, ok_own_row (P := P) (w := w) (base := base) F_own_row k_own_row T_own_row m_tuple, F_own_row.kp, b_own_row, g_own_row⟩
  have h_zero_row : Has P w K mg base _ "zero_row" _ _ := ⟨_, fd_zero_row, ok_zero_row (P := P) (w := w) (base := base) F_zero_row , F_zero_row.kp, b_zero_row, g_zero_row⟩
  have h_row_plus : Has P w K mg base _ "row_plus" _ _ := ⟨_, fd_row_plus, ok_row_plus (P := P) (w := w) (base := base) F_row_plus k_row_plus T_row_plus m_tuple m_zip h_part_plus, F_row_plus.kp, b_row_plus, g_row_plus⟩
  have h_row_less : Has P w K mg base _ "row_less" _ _ := ⟨_, fd_row_less, ok_row_less (P := P) (w := w) (base := base) F_row_less k_row_less T_row_less m_tuple m_zip h_part_less, F_row_less.kp, b_row_less, g_row_less⟩
  have h_row_halved : Has P w K mg base _ "row_halved" _ _ := ⟨_, fd_row_halved, ok_row_halved (P := P) (w := w) (base := base) F_row_halved k_row_halved T_row_halved m_tuple h_part, F_row_halved.kp, b_row_halved, g_row_halved⟩
  have h_row_times : Has P w K mg base _ "row_times" _ _ := ⟨_, fd_row_times, ok_row_times (P := P) (w := w) (base := base) F_row_times k_row_times T_row_times m_tuple h_part, F_row_times.kp, b_row_times, g_row_times⟩
  have h__law_cell_at : Has P w K mg base _ "_law_cell_at" _ _ := ⟨_, fd__law_cell_at, ok__law_cell_at (P := P) (w := w) (base := base) F__law_cell_at m_len, F__law_cell_at.kp, b__law_cell_at, g__law_cell_at⟩
  have h__law_begin : Has P w K mg base _ "_law_begin" _ _ := ⟨_, fd__law_begin, ok__law_begin (P := P) (w := w) (base := base) F__law_begin m_int, F__law_begin.kp, b__law_begin, g__law_begin⟩
  have h__law_draw : Has P w K mg base _ "_law_draw" _ _ := ⟨_, fd__law_draw, ok__law_draw (P := P) (w := w) (base := base) F__law_draw , F__law_draw.kp, b__law_draw, g__law_draw⟩
  have h__law_far : Has P w K mg base _ "_law_far" _ _ := ⟨_, fd__law_far, ok__law_far (P := P) (w := w) (base := base) F__law_far m_range h__law_draw, F__law_far.kp, b__law_far, g__law_far⟩
  have h__law_part : Has P w K mg base _ "_law_part" _ _ := ⟨_, fd__law_part, ok__law_part (P := P) (w := w) (base := base) F__law_part , F__law_part.kp, b__law_part, g__law_part⟩
  have h__law_joined : Has P w K mg base _ "_law_joined" _ _ := ⟨_, fd__law_joined, ok__law_joined (P := P) (w := w) (base := base) F__law_joined m_len m_range m_tuple h__law_part, F__law_joined.kp, b__law_joined, g__law_joined⟩
  have h__law_row : Has P w K mg base _ "_law_row" _ _ := ⟨_, fd__law_row, ok__law_row (P := P) (w := w) (base := base) F__law_row m_range m_tuple h_part h__law_draw h__law_far, F__law_row.kp, b__law_row, g__law_row⟩
  exact ok_law (P := P) (w := w) (base := base) F_law m_isinstance m_tuple m_range h_own_row h_zero_row h_row_plus h_row_less h_row_halved h_row_times h__law_cell_at h__law_begin h__law_draw h__law_far h__law_part h__law_joined h__law_row
end Zl
open PySem PySem.W PySem.Calls PyProof.Rows
theorem PySem.Challenge.cw_sumtold_k06_rows_holds : PySem.Challenge.rw_sumtold_k06_rows.Holds := by
  w_on; o_law
  refine HandSHeadRun.head_any (r := OpenLaw.row PySem.Challenge.rw_sumtold_k06_rows) (q := view (OpenLaw.row PySem.Challenge.rw_sumtold_k06_rows).prog [18]) (H := Zl.hk) (ob := Zl.ob) (M := 1500) (loose := ["part", "part_plus", "part_less", "own_row", "zero_row", "row_plus", "row_less", "row_halved", "row_times", "_law_cell_at", "_law_begin", "_law_draw", "_law_far", "_law_part", "_law_joined", "_law_row"]) (d := HandSHeadRun.topDef (OpenLaw.row PySem.Challenge.rw_sumtold_k06_rows).prog 18) (kwd := []) Zl.ob_eq
    (by kernel_rfl) (fun s => by kernel_rfl) Zl.run (by kernel_rfl) (by kernel_rfl) (by kernel_rfl) (by rfl) (by first | assumption | decide +kernel) (by decide +kernel) ⟨rfl, rfl, rfl, rfl, rfl, by decide +kernel⟩ ?hw ?hc
  case hw => w_witness2
  case hc =>
    refine LamX.walk_ofTsE (l := PySem.Challenge.rw_sumtold_k06_rows) (n := 63) (k := 11) (x := "_law_script") (CX := fun _ => L2.CX0) rfl (by decide) (by kernel_rfl) ⟨rfl, by decide, by decide⟩ ?F (fun _ _ _ _ _ z => z)
    intro w mg fa h Y G hmg0
    obtain ⟨K, KX, c⟩ := Y
    have hmg : mg ("law" : PySem.Str) = some (.ref fa) := by
      have e : (HandSHeadRun.topDef (OpenLaw.row PySem.Challenge.rw_sumtold_k06_rows).prog 18).name = ("law" : PySem.Str) := by kernel_rfl
      rw [← e]
      exact hmg0
    obtain ⟨fd, hb, hF⟩ := Zl.facts (P := (PySem.Challenge.rw_sumtold_k06_rows).prog) (w := w) KX G hmg c.t.d
    have mt : ∀ d ∈ Zl.tf, He.cT K d ∈ Zl.tf.map (He.cT K) := fun d hd => List.mem_map.mpr ⟨d, hd, rfl⟩
    refine ⟨K, KX, fd, Zl.tf.map (He.cT K), Zl.spLaw K (He.cT K ("own_row", none)).2 (He.cT K ("row_plus", none)).2 (He.cT K ("row_less", none)).2 (He.cT K ("row_halved", none)).2 (He.cT K ("row_times", none)).2, fun p hp => ?_, fun p hp => ?_, fun p hp => ?_, hb, fun H a ns hl _ hH hS => ⟨a, ns, rfl, hS, hl, ⟨#[], hH _ (mt ("own_row", none) (by simp [Zl.tf])), trivial⟩, ⟨#[], hH _ (mt ("row_plus", none) (by simp [Zl.tf])), trivial⟩, ⟨#[], hH _ (mt ("row_less", none) (by simp [Zl.tf])), trivial⟩, ⟨#[], hH _ (mt ("row_halved", none) (by simp [Zl.tf])), trivial⟩, ⟨#[], hH _ (mt ("row_times", none) (by simp [Zl.tf])), trivial⟩, fun _ => rfl⟩, fun base hK hN TB => hF base hK hN (fun p hp => TB _ (mt p hp))⟩
    · obtain ⟨d, hd, rfl⟩ := List.mem_map.mp hp
      exact c.empty d hd
    · obtain ⟨d, hd, rfl⟩ := List.mem_map.mp hp
      exact c.out d hd
    · obtain ⟨d, hd, rfl⟩ := List.mem_map.mp hp
      exact PySem.W.codeHd_of_K KX (c.hd d hd)
