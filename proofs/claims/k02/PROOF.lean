import PyProof.Rows.All
import Wide.All
import OpenK.AllK
import Wide.FinOn
import KE.KStateDown
import Lean
import HandS.ForMost
import HandS.Flow
import HandS.Wide
import HandS.WideBits
import HandS.IsInst
import HandS.Style
import KE.BitLaws
import HandS.TupAny
import HandS.CallLocal
import HandS.Defaults
import HandS.Head0
import HandS.Head1
import HandS.Head2
import HandS.HeadEnd
import HandS.HeadHook1
import HandS.HeadHook2
import PySem.Challenge.RW_sumtold_k02_what_is_a_pair_or_part
set_option Elab.async false
set_option linter.all false
set_option maxRecDepth 100000
set_option maxHeartbeats 4000000
set_option pp.deepTerms false
set_option pp.maxSteps 400
set_option Elab.async false
set_option linter.all false
set_option maxRecDepth 100000
set_option maxHeartbeats 2000000
namespace Zk
open PySem PySem.Spec PyProof.Rows L2
/-! ## a def by its promise -/
abbrev FnP (K : PySem.W.Frag) (x : Str) (st : Stmt) (f : Addr) (fd : FuncData) : Prop := FunD K x x (defArgs st) (defBody st) (defScope st) [] [] f fd
def Has (P : Program) (w : World) (K : PySem.W.Frag) (mg : Str → Option Value) (base : Heap) (k : Nat) (x : Str) (ps : List Str) (sp : Sp) : Prop :=
  ∃ f fd, FnOk P w K mg base CX0 k f fd ps sp ∧ PySem.W.keepIn K (.ref f) = true ∧ Binds K fd ps [] ∧ mg x = some (.ref f)
theorem pe_callH {X : Cx} {k : Nat} {x : Str} {ps : List Str} {sp : Sp} {e : Expr} {es : List Expr} {t : TA} {p pos : Pos} (h : Has X.prog X.w X.K X.mg X.base k x ps sp) (hr : Room k X.A) (hg : Gl X x) (ha : PA X (e :: es) t)
    (hdb : (x == ("__debug__" : Str)) = false := by decide) (he : starEach (e :: es) X.env = (false, eval e X.env) :: starEach es X.env := by rfl) (hpl : (backTo pos (starEach es X.env)).any (·.1) = false := by rfl) :
    PE X (.Call (.Name x p) (e :: es) [] pos) (tCall sp [] E0 t) := by
  obtain ⟨f, fd, F, hk, hb, hm⟩ := h
  exact pe_call F hr hg hm hk hb .nil pass0 ha hdb he hpl
/-! ## operators for numbers of some size -/
def CMulA (i j : Int) : Prop := CMul i j ∨ CMulW i j
def CDivA (_ j : Int) : Prop := j ≠ 0 ∧ j.natAbs.log2 < 9000
section
variable {X : Cx}
theorem op_mulA : OpR X (binaryOp .Mult) (rI CMulA fun i j => .int (i * j)) := opI fun _ _ _ _ _ _ _ hc q => mul_int q (hc.elim (fun h => h.ok) (fun h => h.ok))
theorem op_fdivA : OpR X (binaryOp .FloorDiv) (rI CDivA fun i j => .int (i.fdiv j)) := opI fun _ _ _ _ _ _ _ hc q => floordiv_int hc.1 q (.inl (PyProof.noPylong_of_log2 hc.2))
theorem op_shlA : OpR X (binaryOp .LShift) (rI CShl fun i j => .int (i * 2 ^ j.toNat)) := op_shlW
theorem op_shrA : OpR X (binaryOp .RShift) (rI (fun _ j => 0 ≤ j) fun i j => .int (i / 2 ^ j.toNat)) := op_shr
end
theorem divA {i j : Int} {n : Nat} (h0 : j ≠ 0) (h : j.natAbs < 2 ^ n) (hn : 0 < n) (h9 : n ≤ 9000) : CDivA i j := ⟨h0, Nat.lt_of_lt_of_le (PySem.Flt.log2_lt_of hn h) h9⟩
theorem mulA {i j : Int} {a b : Nat} (ha : i.natAbs < 2 ^ a) (hb : j.natAbs < 2 ^ b) (h0 : 0 < a) (h1 : 0 < b) (h : a + b ≤ 1000000) : CMulA i j := .inr (wide_mul ha hb h0 h1 h)
theorem mulL {i j : Int} (h : -(2 ^ 64) < i ∧ i < 2 ^ 64) : CMulA i j := .inl (.inl h)
theorem mulR {i j : Int} (h : -(2 ^ 64) < j ∧ j < 2 ^ 64) : CMulA i j := .inl (.inr h)
/-! ## rules with the written part named -/
def rLenK (K : PySem.W.Frag) : List V → Hp → VK → Prop := fun xs H Q => ∃ x n, xs = [x] ∧ LenV K x H n ∧ Q (.int n) H
def rListK (K : PySem.W.Frag) : List V → Hp → VK → Prop := fun xs H Q => ∃ p ys, xs = [.ref p] ∧ (SqL K H p ys ∨ SqT K H p ys) ∧ ∀ l, H l = none → Q (.ref l) (upd H l (.lst ys))
def rTupleK (K : PySem.W.Frag) : List V → Hp → VK → Prop := fun xs H Q => ∃ p ys, xs = [.ref p] ∧ ((SqL K H p ys ∧ ∀ l, H l = none → Q (.ref l) (upd H l (.tup ys))) ∨ (SqT K H p ys ∧ Q (.ref p) H))
def rAbs : List V → Hp → VK → Prop := fun xs H Q => ∃ i, xs = [.int i] ∧ Q (.int (if i < 0 then -i else i)) H
def rInt1 : List V → Hp → VK → Prop := fun xs H Q => (∃ i, xs = [.int i] ∧ Q (.int i) H) ∨ ∃ k, xs = [.bl k] ∧ Q (.int (if k then 1 else 0)) H
def rMin2 : List V → Hp → VK → Prop := fun xs H Q => ∃ i j, xs = [.int i, .int j] ∧ Q (.int (if j < i then j else i)) H
def rMax2 : List V → Hp → VK → Prop := fun xs H Q => ∃ i j, xs = [.int i, .int j] ∧ Q (.int (if j > i then j else i)) H
section
variable {X : Cx}
theorem call_min2E (hc : X.calm = true) : CallR X (.builtin "min") rMin2 := call_min2 hc
theorem call_max2E (hc : X.calm = true) : CallR X (.builtin "max") rMax2 := call_max2 hc
theorem op_catE (K : PySem.W.Frag) (e : X.K = K := by rfl) : OpR X (binaryOp .Add) (rCatA K) := by rw [← e]; exact op_catA
theorem sl_tupE (K : PySem.W.Frag) (e : X.K = K := by rfl) : SlR X (rSlA K) := by rw [← e]; exact sl_tupA
theorem call_absE : CallR X (.builtin "abs") rAbs := call_abs
theorem call_intE : CallR X (.type "int") rInt1 := call_int1
theorem call_isiE (K : PySem.W.Frag) (e : X.K = K := by rfl) : CallR X (.builtin "isinstance") (rIsi K) := by rw [← e]; exact call_isi
theorem call_lenE (K : PySem.W.Frag) (e : X.K = K := by rfl) : CallR X (.builtin "len") (rLenK K) := by rw [← e]; exact call_len
theorem call_listE (K : PySem.W.Frag) (e : X.K = K := by rfl) : CallR X (.type "list") (rListK K) := by rw [← e]; exact call_list_of
theorem call_tupleE (K : PySem.W.Frag) (e : X.K = K := by rfl) : CallR X (.type "tuple") (rTupleK K) := by rw [← e]; exact call_tuple_of
theorem ix_listE (K : PySem.W.Frag) (e : X.K = K := by rfl) : IxR X (rIxL K) := by rw [← e]; exact ix_list
theorem ix_tupE (K : PySem.W.Frag) (e : X.K = K := by rfl) : IxR X (rIxT K) := by rw [← e]; exact ix_tup
theorem sl_listE (K : PySem.W.Frag) (e : X.K = K := by rfl) : SlR X (rSlL K) := by rw [← e]; exact sl_list
theorem op_inE (K : PySem.W.Frag) (e : X.K = K := by rfl) : OpR X (compareOp .In) (rIn K false) := by rw [← e]; exact op_in_seq
theorem op_notInE (K : PySem.W.Frag) (e : X.K = K := by rfl) : OpR X (compareOp .NotIn) (rIn K true) := by rw [← e]; exact op_notIn_seq
theorem op_eqDE (K : PySem.W.Frag) (hu : X.A.units + 64 < cLine) (e : X.K = K := by rfl) : OpR X (compareOp .Eq) (rEqD K) := by rw [← e]; exact op_eqD hu
theorem op_neDE (K : PySem.W.Frag) (hu : X.A.units + 64 < cLine) (e : X.K = K := by rfl) : OpR X (compareOp .NotEq) (rNeD K) := by rw [← e]; exact op_neD hu
theorem pi_listE (K : PySem.W.Frag) {tg l : Expr} {tl : TE} (hl : PE X l tl) (e : X.K = K := by rfl) : PI X tg l (iList K tl) := by rw [← e]; exact pi_list hl
theorem pi_tupE (K : PySem.W.Frag) {tg l : Expr} {tl : TE} (hl : PE X l tl) (e : X.K = K := by rfl) : PI X tg l (iTup K tl) := by rw [← e]; exact pi_tup hl
theorem pe_orTE (K : PySem.W.Frag) {a b : Expr} {ta tb : TE} {rest : List Expr} {pos : Pos} (ha : PE X a ta) (hb : PE X (.BoolOp .Or (b :: rest) pos) tb) (e : X.K = K := by rfl) : PE X (.BoolOp .Or (a :: b :: rest) pos) (tOrT K ta tb) := by rw [← e]; exact pe_orT ha hb
end
/-! ## the reading, step by step -/
def NewO (o : List V → HO) (xs : List V) (H : Hp) (Q : VK) : Prop := xs.length ≤ sizeLine ∧ ∀ p, H p = none → Q (.ref p) (upd H p (o xs))
section
variable {σ : L2.St} {H : Hp} {Q : VK} {v x y : V} {i : Nat} {ta tb te : TE} {D : Ends} {t u : TS} {c c' : TT} {a b : Int} {K : PySem.W.Frag} {p : Addr} {xs ys : List V}
theorem z_var (h : σ[i]? = some (some v)) (q : Q v H) : tVar i σ H Q := ⟨v, h, q⟩
theorem z_c (q : Q v H) : tC v σ H Q := q
theorem z_op {r : R2} (q : ta σ H fun x H1 => tb σ H1 fun y H2 => r x y H2 Q) : tOp r ta tb σ H Q := q
theorem z_un {r : V → Hp → VK → Prop} (q : ta σ H fun x H1 => r x H1 Q) : tUn r ta σ H Q := q
theorem z_I0 {g : Int → Int → V} (q : Q (g a b) H) : rI0 g (.int a) (.int b) H Q := ⟨a, b, rfl, rfl, q⟩
theorem z_I {C : Int → Int → Prop} {g : Int → Int → V} (hc : C a b) (q : Q (g a b) H) : rI C g (.int a) (.int b) H Q := ⟨a, b, rfl, rfl, hc, q⟩
theorem z_U {g : Int → V} (q : Q (g a) H) : rU g (.int a) H Q := ⟨a, rfl, q⟩
theorem z_eqI (q : Q (.bl (decide (a = b))) H) : rEq (.int a) (.int b) H Q := ⟨rfl, by
  have e : decide (V.int a = V.int b) = decide (a = b) := by
    by_cases h : a = b
    · rw [h, decide_eq_true rfl, decide_eq_true rfl]
    · rw [decide_eq_false h, decide_eq_false (fun z => h (V.int.inj z))]
  rw [e]
  exact q⟩
theorem z_neI (q : Q (.bl (!decide (a = b))) H) : rNe (.int a) (.int b) H Q := ⟨rfl, by
  have e : decide (V.int a = V.int b) = decide (a = b) := by
    by_cases h : a = b
    · rw [h, decide_eq_true rfl, decide_eq_true rfl]
    · rw [decide_eq_false h, decide_eq_false (fun z => h (V.int.inj z))]
  rw [e]
  exact q⟩
theorem z_eqB {k l : Bool} (q : Q (.bl (decide (k = l))) H) : rEq (.bl k) (.bl l) H Q := ⟨rfl, by
  have e : decide (V.bl k = V.bl l) = decide (k = l) := by
    cases k <;> cases l <;> rfl
  rw [e]
  exact q⟩
theorem z_neB {k l : Bool} (q : Q (.bl (!decide (k = l))) H) : rNe (.bl k) (.bl l) H Q := ⟨rfl, by
  have e : decide (V.bl k = V.bl l) = decide (k = l) := by
    cases k <;> cases l <;> rfl
  rw [e]
  exact q⟩
theorem z_isB {k l : Bool} (q : Q (.bl (decide (k = l))) H) : rIsB (.bl k) (.bl l) H Q := ⟨k, l, rfl, rfl, q⟩
theorem z_notB {k l : Bool} (q : Q (.bl (!decide (k = l))) H) : rNotB (.bl k) (.bl l) H Q := ⟨k, l, rfl, rfl, q⟩
theorem z_ixL (h : SqL K H p xs) (e : atI xs a = some v) (q : Q v H) : rIxL K (.ref p) (.int a) H Q := ⟨p, xs, a, v, rfl, rfl, h, e, q⟩
theorem z_ixT (h : SqT K H p xs) (e : atI xs a = some v) (q : Q v H) : rIxT K (.ref p) (.int a) H Q := ⟨p, xs, a, v, rfl, rfl, h, e, q⟩
theorem z_nil {Q : List V → Hp → Prop} (q : Q [] H) : tNil σ H Q := q
theorem z_cons {tr : TA} {Q : List V → Hp → Prop} (q : ta σ H fun x H1 => tr σ H1 fun xs H2 => Q (x :: xs) H2) : tCons ta tr σ H Q := q
theorem z_tup {tr : TA} (q : tr σ H fun xs H1 => NewO HO.tup xs H1 Q) : tTup tr σ H Q := q
theorem z_lst {tr : TA} (q : tr σ H fun xs H1 => NewO HO.lst xs H1 Q) : tLst tr σ H Q := q
theorem z_call {sp : Sp} {dvs : List V} {E : XK} {tr : TA} (q : tr σ H fun vs H1 => sp (vs ++ dvs) H1 Q E) : tCall sp dvs E tr σ H Q := q
theorem z_cb {r : List V → Hp → VK → Prop} {tr : TA} (q : tr σ H fun vs H1 => r vs H1 Q) : tCB r tr σ H Q := q
theorem z_andV (q : ta σ H fun x H1 => ∃ c, x = .bl c ∧ if c = true then tb σ H1 Q else Q (.bl false) H1) : tAndV ta tb σ H Q := q
theorem z_orV (q : ta σ H fun x H1 => ∃ c, x = .bl c ∧ if c = true then Q (.bl true) H1 else tb σ H1 Q) : tOrV ta tb σ H Q := q
theorem z_notV (q : ta σ H fun x H1 => ∃ c, x = .bl c ∧ Q (.bl (!c)) H1) : tNotV ta σ H Q := q
theorem z_orTi (q : if a = 0 then tb σ H Q else Q (.int a) H) : (∃ k, TruV K (.int a) H k ∧ if k = true then Q (.int a) H else tb σ H Q) := by
  refine ⟨a != 0, rfl, ?_⟩
  by_cases h : a = 0
  · rw [if_pos h] at q
    rw [h]
    exact iteF q
  · rw [if_neg h] at q
    have e : (a != 0) = true := by simpa using h
    rw [e]
    exact iteT q
/-- x or y: what stands behind is shown once -/
theorem z_orCut (Pv : Int → Hp → Prop) (ha : a ≠ 0 → Pv a H) (hQ : ∀ m H', Pv m H' → Q (.int m) H') (hb : a = 0 → ∀ Q' : VK, (∀ m H', Pv m H' → Q' (.int m) H') → tb σ H Q') : (∃ k, TruV K (.int a) H k ∧ if k = true then Q (.int a) H else tb σ H Q) := by
  refine z_orTi ?_
  by_cases h : a = 0
  · rw [if_pos h]
    exact hb h Q hQ
  · rw [if_neg h]
    exact hQ _ _ (ha h)
theorem z_orT (q : ta σ H fun x H1 => ∃ k, TruV K x H1 k ∧ if k = true then Q x H1 else tb σ H1 Q) : tOrT K ta tb σ H Q := q
theorem z_ebl {k : Bool} {P : Bool → Prop} (q : P k) : ∃ c, V.bl k = V.bl c ∧ P c := ⟨k, rfl, q⟩
theorem z_eint {P : Int → Prop} (q : P a) : ∃ c, V.int a = V.int c ∧ P c := ⟨a, rfl, q⟩
theorem z_test {Q : Bool → Hp → Prop} (q : te σ H fun x H' => ∃ k, x = .bl k ∧ Q k H') : tTest te σ H Q := q
theorem z_B {Q : Bool → Hp → Prop} (q : te σ H fun x H' => ∃ k, x = .bl k ∧ Q k H') : tB te σ H Q := q
theorem z_and {Q : Bool → Hp → Prop} (q : c σ H fun k H1 => if k = true then c' σ H1 Q else Q false H1) : tAnd c c' σ H Q := q
theorem z_or {Q : Bool → Hp → Prop} (q : c σ H fun k H1 => if k = true then Q true H1 else c' σ H1 Q) : tOr c c' σ H Q := q
theorem z_not {Q : Bool → Hp → Prop} (q : c σ H fun k H1 => Q (!k) H1) : tNot c σ H Q := q
theorem z_yes {Q : Bool → Hp → Prop} (q : Q true H) : tYes σ H Q := q
theorem z_seq (q : t { D with nx := u D } σ H) : tSeq t u D σ H := q
theorem z_next (q : D.nx σ H) : tNext D σ H := q
theorem z_asg {g : TG} (q : te σ H fun x H1 => g x σ H1 D.nx) : tAsg te g D σ H := q
theorem z_name {Q : L2.St → Hp → Prop} (q : Q (σ.set i (some v)) H) : gName i v σ H Q := q
theorem z_ret (q : te σ H D.rt) : tRet te D σ H := q
theorem z_retN (q : D.rt .non H) : tRetN D σ H := q
theorem z_drop (q : te σ H fun _ H1 => D.nx σ H1) : tDrop te D σ H := q
theorem z_if (q : c σ H fun k H1 => if k = true then t D σ H1 else u D σ H1) : tIfS c t u D σ H := q
theorem z_par {j : Nat} {tr : TA} (q : tr σ H fun vs H1 => ∃ v w, vs = [v, w] ∧ D.nx ((σ.set i (some v)).set j (some w)) H1) : tPar i j tr D σ H := q
theorem z_par2 {w : V} {P : V → V → Prop} (q : P v w) : ∃ v' w', [v, w] = [v', w'] ∧ P v' w' := ⟨v, w, rfl, q⟩
theorem z_gTup {n : Nat} {g : TGs} {Q : L2.St → Hp → Prop} (h : SqT K H p xs) (hl : xs.length = n) (q : g xs σ H Q) : gTup K n g (.ref p) σ H Q := ⟨p, xs, rfl, h, hl, q⟩
theorem z_gCons {g : TG} {gs : TGs} {Q : L2.St → Hp → Prop} (q : g v σ H fun σ' H' => gs xs σ' H' Q) : gCons g gs (v :: xs) σ H Q := ⟨v, xs, rfl, q⟩
theorem z_gNil {Q : L2.St → Hp → Prop} (q : Q σ H) : gNil [] σ H Q := ⟨rfl, q⟩
theorem z_gSub {to ti : TE} {ts : TSet} {Q : L2.St → Hp → Prop} (q : to σ H fun o H1 => ti σ H1 fun i H2 => ts o i v H2 fun H3 => Q σ H3) : gSub to ti ts v σ H Q := q
theorem z_setL {j : Nat} {Q : Hp → Prop} (h : H p = some (.lst xs)) (e : ixN xs.length a = some j) (q : Q (upd H p (.lst (xs.set j v)))) : rSetL (.ref p) (.int a) v H Q := ⟨p, xs, a, j, rfl, rfl, h, e, q⟩
theorem z_isi {n s : String} {k : Bool} (hx : TyX K H x (.type n)) (hk : kitB n s = some k) (q : Q (.bl k) H) : rIsi K [x, .ty s] H Q := ⟨x, .ty s, .type n, .type s, k, rfl, .ty s, hx, kit_ty hk, q⟩
theorem z_new {o : List V → HO} (hl : xs.length ≤ 1000) (q : ∀ p H', H p = none → Same H H' → H' p = some (o xs) → Q (.ref p) H') : NewO o xs H Q :=
  ⟨Nat.le_of_lt (small1000 hl), fun p hp => q p _ hp (fun b u e => by rw [upd_ne (ne_of_none e hp)]; exact e) upd_same⟩
theorem z_lenT (h : H p = some (.tup xs)) (q : Q (.int xs.length) H) : rLenK K [.ref p] H Q := ⟨_, xs.length, rfl, .inr ⟨xs, SqT.of h, rfl⟩, q⟩
theorem z_lenL (h : SqL K H p xs) (q : Q (.int xs.length) H) : rLenK K [.ref p] H Q := ⟨_, xs.length, rfl, .inl ⟨xs, h, rfl⟩, q⟩
theorem z_slL {lo hi : Option Int} (h : SqL K H p xs) (q : ∀ p' H', H p' = none → Same H H' → H' p' = some (.lst (cutV xs lo hi)) → Q (.ref p') H') : rSlL K (.ref p) lo hi H Q :=
  ⟨p, xs, rfl, h, fun p' hp => q p' _ hp (fun b u e => by rw [upd_ne (ne_of_none e hp)]; exact e) upd_same⟩
theorem z_cat {l l' : Addr} (h : H l = some (.lst xs)) (h' : H l' = some (.lst ys)) (hl : xs.length + ys.length ≤ 1000) (q : ∀ p' H', H p' = none → Same H H' → H' p' = some (.lst (xs ++ ys)) → Q (.ref p') H') : rCat (.ref l) (.ref l') H Q :=
  ⟨l, l', xs, ys, rfl, rfl, h, h', Nat.le_of_lt (small1000 hl), fun p' hp => q p' _ hp (fun b u e => by rw [upd_ne (ne_of_none e hp)]; exact e) upd_same⟩
theorem z_catT {l l' : Addr} (h : H l = some (.tup xs)) (h' : H l' = some (.tup ys)) (hl : xs.length + ys.length ≤ 1000) (q : ∀ p' H', Same H H' → H' p' = some (.tup (xs ++ ys)) → Q (.ref p') H') : rCatA K (.ref l) (.ref l') H Q :=
  ⟨l, l', xs, ys, rfl, rfl, SqT.of h, SqT.of h', Nat.le_of_lt (small1000 hl), fun e => q l' H (Same.refl H) (by rw [e]; exact h'), fun _ e => q l H (Same.refl H) (by rw [e, List.append_nil]; exact h), fun _ _ p' hp => q p' _ (fun b u e => by rw [upd_ne (ne_of_none e hp)]; exact e) upd_same⟩
theorem cutV_whole {xs : List V} {lo hi : Option Int} (h : HT.sIx xs.length 0 lo = 0 ∧ HT.sIx xs.length xs.length hi = xs.length) : cutV xs lo hi = xs := by
  unfold cutV
  rw [h.1, h.2]
  simp
theorem z_slT {lo hi : Option Int} (h : H p = some (.tup xs)) (q : ∀ p' H', Same H H' → H' p' = some (.tup (cutV xs lo hi)) → Q (.ref p') H') : rSlA K (.ref p) lo hi H Q :=
  ⟨p, xs, rfl, SqT.of h, fun e => q p H (Same.refl H) (by rw [cutV_whole e]; exact h), fun _ p' hp => q p' _ (fun b u e => by rw [upd_ne (ne_of_none e hp)]; exact e) upd_same⟩
theorem z_dnew (q : ∀ p H', H p = none → Same H H' → H' p = some (.dK []) → Q (.ref p) H') : tDNewK σ H Q := fun p hp => q p _ hp (fun b u e => by rw [upd_ne (ne_of_none e hp)]; exact e) upd_same
theorem z_listT (h : H p = some (.tup xs)) (q : ∀ p' H', H p' = none → Same H H' → H' p' = some (.lst xs) → Q (.ref p') H') : rListK K [.ref p] H Q := ⟨p, xs, rfl, .inr (SqT.of h), fun p' hp => q p' _ hp (fun b u e => by rw [upd_ne (ne_of_none e hp)]; exact e) upd_same⟩
theorem z_eqD {d e : PyData} {k : Bool} (h : Dp K H x d) (h' : Dp K H y e) (s : SeqAt.shaped d = true) (s' : SeqAt.shaped e = true) (hk : PyData.eqv d e = k) (q : Q (.bl k) H) : rEqD K x y H Q := ⟨d, e, h, h', s, s', by rw [hk]; exact q⟩
theorem z_neD {d e : PyData} {k : Bool} (h : Dp K H x d) (h' : Dp K H y e) (s : SeqAt.shaped d = true) (s' : SeqAt.shaped e = true) (hk : PyData.eqv d e = k) (q : Q (.bl (!k)) H) : rNeD K x y H Q := ⟨d, e, h, h', s, s', by rw [hk]; exact q⟩
theorem z_min2 {m n : Nat} (q : Q (.int ((min m n : Nat) : Int)) H) : rMin2 [.int (m : Int), .int (n : Int)] H Q := ⟨m, n, rfl, by
  have e : (if (n : Int) < (m : Int) then (n : Int) else (m : Int)) = ((min m n : Nat) : Int) := by split <;> omega
  rw [e]
  exact q⟩
theorem z_max2 {m n : Nat} (q : Q (.int ((max m n : Nat) : Int)) H) : rMax2 [.int (m : Int), .int (n : Int)] H Q := ⟨m, n, rfl, by
  have e : (if (n : Int) > (m : Int) then (n : Int) else (m : Int)) = ((max m n : Nat) : Int) := by split <;> omega
  rw [e]
  exact q⟩
theorem z_intB {k : Bool} (q : Q (.int (if k then 1 else 0)) H) : rInt1 [.bl k] H Q := .inr ⟨k, rfl, q⟩
theorem z_abs (q : Q (.int (a.natAbs : Int)) H) : rAbs [.int a] H Q := ⟨a, rfl, by
  have e : (if a < 0 then -a else a) = (a.natAbs : Int) := by split <;> omega
  rw [e]
  exact q⟩
theorem z_pow (h : CPow a b) (q : Q (.int (a ^ b.toNat)) H) : rI CPow (fun i j => .int (i ^ j.toNat)) (.int a) (.int b) H Q := ⟨a, b, rfl, rfl, h, q⟩
theorem z_modN (h : b ≠ 0) (q : Q (.int (a.fmod b)) H) : rI (fun _ j => j ≠ 0) (fun i j => .int (i.fmod j)) (.int a) (.int b) H Q := ⟨a, b, rfl, rfl, h, q⟩
theorem z_mulA (h : CMulA a b) (q : Q (.int (a * b)) H) : rI CMulA (fun i j => .int (i * j)) (.int a) (.int b) H Q := ⟨a, b, rfl, rfl, h, q⟩
theorem z_fdivA (h : CDivA a b) (q : Q (.int (a.fdiv b)) H) : rI CDivA (fun i j => .int (i.fdiv j)) (.int a) (.int b) H Q := ⟨a, b, rfl, rfl, h, q⟩
theorem z_shlA (h : CShl a b) (q : Q (.int (a * 2 ^ b.toNat)) H) : rI CShl (fun i j => .int (i * 2 ^ j.toNat)) (.int a) (.int b) H Q := ⟨a, b, rfl, rfl, h, q⟩
theorem z_shrA (h : 0 ≤ b) (q : Q (.int (a / 2 ^ b.toNat)) H) : rI (fun _ j => 0 ≤ j) (fun i j => .int (i / 2 ^ j.toNat)) (.int a) (.int b) H Q := ⟨a, b, rfl, rfl, h, q⟩
theorem z_for {wi : TI} {g : TG} {tb : TS} (q : wi σ H fun J H1 => ∃ W : Nat → Nat → L2.St → Hp → Prop, (∃ m, W 0 m σ H1) ∧ ∀ i m σ H, W i m σ H →
  (J.stop i H ∧ D.nx σ H) ∨ (J.go i H ∧ ∃ N : L2.St → Hp → Prop, (∀ σ' H', N σ' H' → ∃ m', m' < m ∧ W (i + 1) m' σ' H') ∧ ∀ x H', J.yld i H x H' → g x σ H' fun σ2 H2 => tb { D with nx := N, ct := N, bk := D.nx } σ2 H2)) : tFor wi g tb D σ H := q
theorem z_rng1 {tr : TA} {R : It → Hp → Prop} (q : tr σ H fun vs H1 => ∃ j : Int, vs = [.int j] ∧ -(2 ^ 62) ≤ j ∧ j < 2 ^ 62 ∧ R (Itr 0 j.toNat) H1) : iRng1 tr σ H R := q
theorem z_iL {R : It → Hp → Prop} (q : te σ H fun x H1 => ∃ a, x = .ref a ∧ (∃ xs, SqL K H1 a xs) ∧ R (Itl K a) H1) : iList K te σ H R := q
theorem z_iT {R : It → Hp → Prop} (q : te σ H fun x H1 => ∃ a, x = .ref a ∧ (∃ xs, SqT K H1 a xs) ∧ R (Itt K a) H1) : iTup K te σ H R := q
theorem z_bm {T : String} {r : V → List V → Hp → VK → Prop} {to : TE} {tr : TA} (q : to σ H fun x H1 => tyV K T x H1 ∧ tr σ H1 fun xs H2 => r x xs H2 Q) : tBM K T r to tr σ H Q := q
theorem z_bits (q : te σ H fun x H1 => ∃ i, x = .int i ∧ Q (.int (Builtin.Int.intBits i : Nat)) H1) : tBits te σ H Q := q
theorem z_sl {r : V → Option Int → Option Int → Hp → VK → Prop} {tl th : TO} (q : te σ H fun x H1 => tl σ H1 fun l H2 => th σ H2 fun u H3 => r x l u H3 Q) : tSl r te tl th σ H Q := q
theorem z_noPart {Q : Option Int → Hp → Prop} (q : Q none H) : tNoPart σ H Q := q
theorem z_part {Q : Option Int → Hp → Prop} (q : te σ H fun x H1 => ∃ i, x = .int i ∧ Q (some i) H1) : tPart te σ H Q := q
theorem z_chain {r r' : R2} {tc : TE} (q : ta σ H fun x H1 => tb σ H1 fun y H2 => r x y H2 fun z H3 => ∃ k, z = .bl k ∧ (if k = true then tc σ H3 fun w' H4 => r' y w' H4 Q else Q (.bl false) H3)) : tChain r r' ta tb tc σ H Q := q
theorem z_itT {k : Bool} {A B : Prop} (e : k = true) (q : A) : if k = true then A else B := by rw [if_pos e]; exact q
theorem z_itF {k : Bool} {A B : Prop} (e : k = false) (q : B) : if k = true then A else B := by rw [e]; exact iteF q
/-- what stands behind is shown once -/
theorem cutT {σ : L2.St} {H : Hp} {t : TT} {Q : Bool → Hp → Prop} (Pv : Bool → Hp → Prop) (h : ∀ Q' : Bool → Hp → Prop, (∀ k H', Pv k H' → Q' k H') → t σ H Q') (hQ : ∀ k H', Pv k H' → Q k H') : t σ H Q := h Q hQ
theorem cutE {σ : L2.St} {H : Hp} {t : TE} {Q : VK} (Pv : V → Hp → Prop) (h : ∀ Q' : VK, (∀ k H', Pv k H' → Q' k H') → t σ H Q') (hQ : ∀ k H', Pv k H' → Q k H') : t σ H Q := h Q hQ
theorem cutS {σ : L2.St} {H : Hp} {t : TS} {D : Ends} (Pv : L2.St → Hp → Prop) (h : ∀ D' : Ends, (∀ σ' H', Pv σ' H' → D'.nx σ' H') → D'.rt = D.rt → D'.bk = D.bk → D'.ct = D.ct → t D' σ H) (hQ : ∀ σ' H', Pv σ' H' → D.nx σ' H') : t D σ H := h D hQ rfl rfl rfl
theorem sz {n : Nat} (h : n ≤ 1000) : n ≤ sizeLine := Nat.le_of_lt (small1000 h)
theorem z_ite {P : Prop} {A B : Prop} [Decidable P] (h1 : P → A) (h2 : ¬ P → B) : if decide P = true then A else B := by
  by_cases h : P
  · rw [decide_eq_true h]
    exact iteT (h1 h)
  · rw [decide_eq_false h]
    exact iteF (h2 h)
theorem z_nite {P : Prop} {A B : Prop} [Decidable P] (h1 : ¬ P → A) (h2 : P → B) : if (!decide P) = true then A else B := by
  by_cases h : P
  · rw [decide_eq_true h]
    exact iteF (h2 h)
  · rw [decide_eq_false h]
    exact iteT (h1 h)
end
/-! ## the source of draws: a list of three ints; all else stays -/
def Src (H : Hp) (s : Addr) : Prop := ∃ a b c : Int, H s = some (.lst [.int a, .int b, .int c])
structure Dr (s : Addr) (H H' : Hp) : Prop where
  keep : ∀ a o, a ≠ s → H a = some o → H' a = some o
  src : Src H' s
  src0 : Src H s
theorem Dr.trans {s : Addr} {H H1 H2 : Hp} (a : Dr s H H1) (b : Dr s H1 H2) : Dr s H H2 := ⟨fun x o n h => b.keep x o n (a.keep x o n h), b.src, a.src0⟩
theorem Dr.refl {s : Addr} {H : Hp} (h : Src H s) : Dr s H H := ⟨fun _ _ _ h => h, h, h⟩
theorem Src.same {s : Addr} {H H' : Hp} (h : Src H s) (e : Same H H') : Src H' s := by
  obtain ⟨a, b, c, h⟩ := h
  exact ⟨a, b, c, e _ _ h⟩
theorem Src.ne {s p : Addr} {H : Hp} (h : Src H s) (n : H p = none) : p ≠ s := by
  obtain ⟨a, b, c, h⟩ := h
  intro z
  rw [z, h] at n
  cases n
theorem Dr.of_same {s : Addr} {H H' : Hp} (h : Src H s) (e : Same H H') : Dr s H H' := ⟨fun a o _ h => e a o h, h.same e, h⟩
theorem Dr.tup {s a : Addr} {H H' : Hp} {xs : List V} (d : Dr s H H') (ht : H a = some (.tup xs)) : H' a = some (.tup xs) := by
  obtain ⟨x, y, z, h⟩ := d.src0
  exact d.keep a _ (ne_of ht h (by intro q; cases q)) ht
theorem Dr.frz {s a : Addr} {H H' : Hp} {o : Obj} {u : HO} (d : Dr s H H') (ht : H a = some (.frz o u)) : H' a = some (.frz o u) := by
  obtain ⟨x, y, z, h⟩ := d.src0
  exact d.keep a _ (ne_of ht h (by intro q; cases q)) ht
theorem same_get {H H' : Hp} {a : Addr} {o : HO} (e : Same H H') (h : H a = some o) : H' a = some o := e a o h
theorem dpPair {K : PySem.W.Frag} {H : Hp} {p : Addr} {x y : Int} (h : H p = some (.tup [.int x, .int y])) : Dp K H (.ref p) (.tuple [.int x, .int y]) := .tup (SqT.of h) (.cons (.int x) (.cons (.int y) .nil))
theorem shPair (x y : Int) : SeqAt.shaped (.tuple [.int x, .int y]) = true := rfl
theorem eqvPair (x y x' y' : Int) : PyData.eqv (.tuple [.int x, .int y]) (.tuple [.int x', .int y']) = (decide (x = x') && decide (y = y')) := by
  by_cases h : x = x' <;> by_cases h' : y = y' <;> simp [PyData.eqv, PyData.eqvAll, h, h']
theorem eqvPair_of {x y x' y' : Int} (h : x = x') (h' : y = y') : PyData.eqv (.tuple [.int x, .int y]) (.tuple [.int x', .int y']) = true := by
  rw [eqvPair, decide_eq_true h, decide_eq_true h']
  rfl
theorem bool_bl {k l : Bool} (e : k = l) {Q : VK} {H : Hp} (q : Q (.bl l) H) : Q (.bl k) H := by rw [e]; exact q
end Zk
set_option Elab.async false
set_option linter.all false
set_option maxRecDepth 100000
set_option maxHeartbeats 2000000
namespace Zk
open PySem PySem.Spec PyProof.Rows L2
/-! ## pairs: the mathematics -/
def dvs (n d : Int) : Int := if d < 0 then -(Nat.gcd n.natAbs d.natAbs : Int) else (Nat.gcd n.natAbs d.natAbs : Int)
def pn (n d : Int) : Int := n.fdiv (dvs n d)
def pd (n d : Int) : Int := d.fdiv (dvs n d)
theorem gcd_pos {n d : Int} (h : d ≠ 0) : 0 < Nat.gcd n.natAbs d.natAbs := Nat.gcd_pos_of_pos_right _ (by omega)
theorem dvs_ne {n d : Int} (h : d ≠ 0) : dvs n d ≠ 0 := by
  have := gcd_pos (n := n) h
  unfold dvs
  split <;> omega
theorem dvs_abs (n d : Int) : (dvs n d).natAbs = Nat.gcd n.natAbs d.natAbs := by
  unfold dvs
  split <;> omega
theorem dvs_l (n d : Int) : dvs n d ∣ n := by
  rw [← Int.natAbs_dvd_natAbs, dvs_abs]
  exact Nat.gcd_dvd_left _ _
theorem dvs_r (n d : Int) : dvs n d ∣ d := by
  rw [← Int.natAbs_dvd_natAbs, dvs_abs]
  exact Nat.gcd_dvd_right _ _
theorem pn_mul (n d : Int) : pn n d * dvs n d = n := Int.fdiv_mul_cancel (dvs_l n d)
theorem pd_mul (n d : Int) : pd n d * dvs n d = d := Int.fdiv_mul_cancel (dvs_r n d)
theorem pn_abs (n d : Int) : (pn n d).natAbs * Nat.gcd n.natAbs d.natAbs = n.natAbs := by
  have h := congrArg Int.natAbs (pn_mul n d)
  rw [Int.natAbs_mul, dvs_abs] at h
  exact h
theorem pd_abs (n d : Int) : (pd n d).natAbs * Nat.gcd n.natAbs d.natAbs = d.natAbs := by
  have h := congrArg Int.natAbs (pd_mul n d)
  rw [Int.natAbs_mul, dvs_abs] at h
  exact h
theorem pd_pos {n d : Int} (h : d ≠ 0) : 0 < pd n d := by
  have e := pd_mul n d
  have g := gcd_pos (n := n) h
  unfold dvs at e
  by_cases hd : d < 0
  · rw [if_pos hd] at e
    rcases (show 0 < pd n d ∨ pd n d ≤ 0 by omega) with q | q
    · exact q
    · exfalso
      have : 0 ≤ pd n d * -(Nat.gcd n.natAbs d.natAbs : Int) := Int.mul_nonneg_of_nonpos_of_nonpos q (by omega)
      omega
  · rw [if_neg hd] at e
    rcases (show 0 < pd n d ∨ pd n d ≤ 0 by omega) with q | q
    · exact q
    · exfalso
      have : pd n d * (Nat.gcd n.natAbs d.natAbs : Int) ≤ 0 := Int.mul_nonpos_of_nonpos_of_nonneg q (by omega)
      omega
theorem pr_cross (n d : Int) : pn n d * d = n * pd n d := by
  have e1 := pn_mul n d
  have e2 := pd_mul n d
  calc pn n d * d = pn n d * (pd n d * dvs n d) := by rw [e2]
    _ = (pn n d * dvs n d) * pd n d := by rw [Int.mul_comm (pd n d), Int.mul_assoc]
    _ = n * pd n d := by rw [e1]
theorem pr_gcd {n d : Int} (h : d ≠ 0) : Nat.gcd (pn n d).natAbs (pd n d).natAbs = 1 := by
  have g := gcd_pos (n := n) h
  have e := Nat.gcd_mul_right (pn n d).natAbs (Nat.gcd n.natAbs d.natAbs) (pd n d).natAbs
  rw [pn_abs, pd_abs] at e
  exact Nat.eq_of_mul_eq_mul_right g (by omega)
theorem pn_le {n d : Int} (h : d ≠ 0) : (pn n d).natAbs ≤ n.natAbs := by
  have g := gcd_pos (n := n) h
  have e := pn_abs n d
  have : (pn n d).natAbs * 1 ≤ (pn n d).natAbs * Nat.gcd n.natAbs d.natAbs := Nat.mul_le_mul_left _ g
  omega
theorem pd_le {n d : Int} (h : d ≠ 0) : (pd n d).natAbs ≤ d.natAbs := by
  have g := gcd_pos (n := n) h
  have e := pd_abs n d
  have : (pd n d).natAbs * 1 ≤ (pd n d).natAbs * Nat.gcd n.natAbs d.natAbs := Nat.mul_le_mul_left _ g
  omega
/-- a pair in lowest terms -/
structure Low (x y : Int) : Prop where
  pos : 0 < y
  one : Nat.gcd x.natAbs y.natAbs = 1
theorem low_pair {n d : Int} (h : d ≠ 0) : Low (pn n d) (pd n d) := ⟨pd_pos h, pr_gcd h⟩
theorem low_eq {x y x' y' : Int} (h : Low x y) (h' : Low x' y') (e : x * y' = x' * y) : x = x' ∧ y = y' := by
  have ea := congrArg Int.natAbs e
  rw [Int.natAbs_mul, Int.natAbs_mul] at ea
  have d1 : y.natAbs ∣ y'.natAbs := by
    refine Nat.Coprime.dvd_of_dvd_mul_left (k := y.natAbs) (m := x.natAbs) (n := y'.natAbs) ?_ ?_
    · rw [Nat.Coprime, Nat.gcd_comm]
      exact h.one
    · exact ⟨x'.natAbs, by rw [ea, Nat.mul_comm]⟩
  have d2 : y'.natAbs ∣ y.natAbs := by
    refine Nat.Coprime.dvd_of_dvd_mul_left (k := y'.natAbs) (m := x'.natAbs) (n := y.natAbs) ?_ ?_
    · rw [Nat.Coprime, Nat.gcd_comm]
      exact h'.one
    · exact ⟨x.natAbs, by rw [← ea, Nat.mul_comm]⟩
  have ey := Nat.dvd_antisymm d1 d2
  have p1 := h.pos
  have p2 := h'.pos
  have ey2 : y = y' := by omega
  refine ⟨?_, ey2⟩
  rw [← ey2] at e
  exact Int.eq_of_mul_eq_mul_right (by omega) e
/-- a pair is told by its worth -/
theorem pair_eq {n d n' d' : Int} (h : d ≠ 0) (h' : d' ≠ 0) (e : n * d' = n' * d) : pn n d = pn n' d' ∧ pd n d = pd n' d' := by
  refine low_eq (low_pair h) (low_pair h') ?_
  have c1 := pr_cross n d
  have c2 := pr_cross n' d'
  have e2 : (pn n d * pd n' d') * (d * d') = (pn n' d' * pd n d) * (d * d') := by
    calc (pn n d * pd n' d') * (d * d') = (pn n d * d) * (d' * pd n' d') := by
          rw [Int.mul_comm d' (pd n' d'), Int.mul_assoc, Int.mul_assoc, ← Int.mul_assoc (pd n' d') d d', Int.mul_comm (pd n' d') d, Int.mul_assoc]
      _ = (n * pd n d) * (d' * pd n' d') := by rw [c1]
      _ = (n * d') * (pd n d * pd n' d') := by
          rw [Int.mul_assoc, Int.mul_assoc, ← Int.mul_assoc (pd n d) d', Int.mul_comm (pd n d) d', Int.mul_assoc]
      _ = (n' * d) * (pd n d * pd n' d') := by rw [e]
      _ = (n' * pd n' d') * (d * pd n d) := by
          rw [Int.mul_assoc, Int.mul_assoc, Int.mul_comm (pd n d) (pd n' d'), ← Int.mul_assoc d, Int.mul_comm d (pd n' d'), Int.mul_assoc]
      _ = (pn n' d' * d') * (d * pd n d) := by rw [c2]
      _ = (pn n' d' * pd n d) * (d * d') := by
          rw [Int.mul_assoc, Int.mul_assoc, Int.mul_comm d (pd n d), ← Int.mul_assoc d', Int.mul_comm d' (pd n d), Int.mul_assoc, Int.mul_comm d' d]
  exact Int.eq_of_mul_eq_mul_right (by
    intro z
    rcases Int.mul_eq_zero.mp z with q | q
    · exact h q
    · exact h' q) e2
/-- of a pair in lowest terms pair tells itself -/
theorem pair_self {x y : Int} (h : Low x y) : pn x y = x ∧ pd x y = y :=
  low_eq (low_pair (by have := h.pos; omega)) h (by rw [pr_cross])
theorem lt_pow {a b n : Nat} (h : a ≤ b) (hb : b < 2 ^ n) : a < 2 ^ n := Nat.lt_of_le_of_lt h hb
theorem pw_mono {a m n : Nat} (h : a < 2 ^ m) (hn : m ≤ n) : a < 2 ^ n := Nat.lt_of_lt_of_le h (Nat.pow_le_pow_right (by decide) hn)
theorem pw_mul {a b : Int} {m n : Nat} (ha : a.natAbs < 2 ^ m) (hb : b.natAbs < 2 ^ n) : (a * b).natAbs < 2 ^ (m + n) := wide_lt ha hb
theorem pw_add {a b : Int} {n : Nat} (ha : a.natAbs < 2 ^ n) (hb : b.natAbs < 2 ^ n) : (a + b).natAbs < 2 ^ (n + 1) := by
  rw [Nat.pow_succ]
  omega
theorem pw_sub {a b : Int} {n : Nat} (ha : a.natAbs < 2 ^ n) (hb : b.natAbs < 2 ^ n) : (a - b).natAbs < 2 ^ (n + 1) := by
  rw [Nat.pow_succ]
  omega
theorem ipow_le {c a b : Nat} (hc : 0 < c) (h : a ≤ b) : (c : Int) ^ a ≤ (c : Int) ^ b := by
  rw [← Int.natCast_pow, ← Int.natCast_pow]
  exact Int.ofNat_le.mpr (Nat.pow_le_pow_right hc h)
theorem fm2 (x : Nat) : (x : Int).fmod 2 = ((x % 2 : Nat) : Int) := by
  rw [Int.fmod_eq_emod_of_nonneg _ (by decide)]
  rfl
theorem sh1 (x : Nat) : (x : Int) / 2 ^ Int.toNat 1 = ((x / 2 : Nat) : Int) := rfl
theorem gcd_both {x y : Nat} (hx : x % 2 = 0) (hy : y % 2 = 0) : Nat.gcd x y = 2 * Nat.gcd (x / 2) (y / 2) := by
  have ex : x = 2 * (x / 2) := by omega
  have ey : y = 2 * (y / 2) := by omega
  rw [← Nat.gcd_mul_left, ← ex, ← ey]
theorem dvd_two {k : Nat} (h : k ∣ 2) : k = 1 ∨ k = 2 := by
  have : k ≤ 2 := Nat.le_of_dvd (by decide) h
  rcases (show k = 0 ∨ k = 1 ∨ k = 2 by omega) with rfl | rfl | rfl
  · exact absurd h (by decide)
  · exact .inl rfl
  · exact .inr rfl
theorem gcd_left {x y : Nat} (hx : x % 2 = 0) (hy : y % 2 = 1) : Nat.gcd (x / 2) y = Nat.gcd x y := by
  have ex : x = 2 * (x / 2) := by omega
  have c : Nat.Coprime 2 y := by
    unfold Nat.Coprime
    have := Nat.gcd_dvd_left 2 y
    have h2 : Nat.gcd 2 y ∣ y := Nat.gcd_dvd_right 2 y
    rcases (dvd_two this) with h | h
    · exact h
    · rw [h] at h2
      omega
  have h := Nat.Coprime.gcd_mul_left_cancel (x / 2) c
  rw [← ex] at h
  exact h.symm
theorem gcd_right {x y : Nat} (hx : x % 2 = 1) (hy : y % 2 = 0) : Nat.gcd x (y / 2) = Nat.gcd x y := by
  rw [Nat.gcd_comm x, Nat.gcd_comm x]
  exact gcd_left hy hx
theorem gcd_sub {x y : Nat} (h : y ≤ x) : Nat.gcd (x - y) y = Nat.gcd x y := Nat.gcd_sub_self_left h
/-- the while loops' tests pass on what they find -/
theorem mono_neI {i : Nat} {n : Int} {σ : L2.St} {H : Hp} {Q Q' : Bool → Hp → Prop} (hQ : ∀ b H1, Q b H1 → Q' b H1) (h : tTest (tOp rNe (tVar i) (tC (.int n))) σ H Q) : tTest (tOp rNe (tVar i) (tC (.int n))) σ H Q' := by
  obtain ⟨v, e, s, k, e2, q⟩ := h
  exact ⟨v, e, s, k, e2, hQ _ _ q⟩
end Zk
set_option Elab.async false
set_option linter.all false
set_option maxRecDepth 100000
set_option maxHeartbeats 2000000
namespace Zk
open PySem PySem.Spec PyProof.Rows L2
/-! ## parts: the mathematics -/
def partF : Nat → Int → Int × Nat
  | 0, n => (n, 0)
  | e + 1, n => if n % 2 = 0 then partF e (n / 2) else (n, e + 1)
theorem and_odd (k : Nat) : (2 * k + 1) &&& (2 * k) = 2 * k := by
  have h1 : ((2 * k + 1) &&& (2 * k)) / 2 = k := by
    rw [Nat.and_div_two, show (2 * k + 1) / 2 = k by omega, show 2 * k / 2 = k by omega, Nat.and_self]
  have h2 : ((2 * k + 1) &&& (2 * k)) % 2 = 0 := by
    rcases (show ((2 * k + 1) &&& (2 * k)) % 2 = 0 ∨ ((2 * k + 1) &&& (2 * k)) % 2 = 1 by omega) with h | h
    · exact h
    · have := (Nat.and_mod_two_eq_one.mp h).2
      omega
  omega
theorem and_even {k : Nat} (hk : 0 < k) : (2 * k) &&& (2 * k - 1) = 2 * (k &&& (k - 1)) := by
  have h1 : ((2 * k) &&& (2 * k - 1)) / 2 = (k &&& (k - 1)) := by
    rw [Nat.and_div_two, show 2 * k / 2 = k by omega, show (2 * k - 1) / 2 = k - 1 by omega]
  have h2 : ((2 * k) &&& (2 * k - 1)) % 2 = 0 := by
    rcases (show ((2 * k) &&& (2 * k - 1)) % 2 = 0 ∨ ((2 * k) &&& (2 * k - 1)) % 2 = 1 by omega) with h | h
    · exact h
    · have := (Nat.and_mod_two_eq_one.mp h).1
      omega
  omega
theorem low_bit : ∀ (b n : Nat), n ≤ b → 0 < n → ∃ v m : Nat, n = 2 ^ v * (2 * m + 1) ∧ n - (n &&& (n - 1)) = 2 ^ v ∧ (n &&& (n - 1)) ≤ n
  | 0, n, h, h0 => by omega
  | b + 1, n, h, h0 => by
    rcases (show n % 2 = 1 ∨ n % 2 = 0 by omega) with ho | he
    · refine ⟨0, n / 2, by omega, ?_, ?_⟩
      · have e := and_odd (n / 2)
        rw [show 2 * (n / 2) + 1 = n by omega, show 2 * (n / 2) = n - 1 by omega] at e
        rw [e]
        omega
      · exact Nat.and_le_left
    · obtain ⟨v, m, e1, e2, e3⟩ := low_bit b (n / 2) (by omega) (by omega)
      refine ⟨v + 1, m, ?_, ?_, Nat.and_le_left⟩
      · rw [Nat.pow_succ, Nat.mul_comm (2 ^ v) 2, Nat.mul_assoc, ← e1]
        omega
      · have e := and_even (k := n / 2) (by omega)
        rw [show 2 * (n / 2) = n by omega] at e
        rw [e, Nat.pow_succ, ← e2]
        omega
theorem bits_low {x : Int} (hx : x ≠ 0) : ∃ (v : Nat) (m : Int), x = 2 ^ v * m ∧ m % 2 = 1 ∧ Builtin.Int.intBits (Builtin.bitAnd x (-x)) = v + 1 := by
  obtain ⟨v, m, e1, e2, e3⟩ := low_bit x.natAbs x.natAbs (Nat.le_refl _) (by omega)
  have ea : Builtin.bitAnd x (-x) = ((2 ^ v : Nat) : Int) := by
    rcases (show 0 < x ∨ x < 0 by omega) with h | h
    · rw [bitAnd_pn (by omega) (by omega)]
      have e : (Builtin.bitNot (-x)).toNat = x.natAbs - 1 := by
        unfold Builtin.bitNot
        omega
      rw [e, show x.toNat = x.natAbs by omega, ← e2]
      omega
    · rw [bitAnd_np (by omega) (by omega)]
      have e : (Builtin.bitNot x).toNat = x.natAbs - 1 := by
        unfold Builtin.bitNot
        omega
      rw [e, show (-x).toNat = x.natAbs by omega, ← e2]
      omega
  have p0 : 0 < 2 ^ v := Nat.pow_pos (by decide)
  have eb : Builtin.Int.intBits (Builtin.bitAnd x (-x)) = v + 1 := by
    rw [ea]
    unfold Builtin.Int.intBits
    rw [if_neg (show ¬ ((((2 ^ v : Nat) : Int) == 0) = true) from fun z => by
      have := eq_of_beq z
      omega), Int.natAbs_natCast, Nat.log2_two_pow]
  have ec : ((2 : Int) ^ v) = ((2 ^ v : Nat) : Int) := by rw [Int.natCast_pow]; rfl
  rcases (show 0 < x ∨ x < 0 by omega) with h | h
  · refine ⟨v, 2 * (m : Int) + 1, ?_, by omega, eb⟩
    have : x = (x.natAbs : Int) := by omega
    rw [this, e1, Int.natCast_mul, ec]
    rfl
  · refine ⟨v, -(2 * (m : Int) + 1), ?_, by omega, eb⟩
    have : x = -(x.natAbs : Int) := by omega
    rw [this, e1, Int.natCast_mul, ec, Int.mul_neg]
    rfl
theorem partF_zero (e : Nat) : partF e 0 = (0, 0) := by
  induction e with
  | zero => rfl
  | succ e ih => exact ih
theorem two_even (v : Nat) (m : Int) : (2 ^ (v + 1) * m) % 2 = 0 ∧ (2 ^ (v + 1) * m) / 2 = 2 ^ v * m := by
  have e : (2 : Int) ^ (v + 1) * m = 2 * (2 ^ v * m) := by
    rw [Int.pow_succ, Int.mul_comm (2 ^ v) 2, Int.mul_assoc]
  rw [e]
  omega
theorem partF_val : ∀ (e v : Nat) (m : Int), m % 2 = 1 → partF e (2 ^ v * m) = ((2 ^ v * m) / 2 ^ (min v e), e - min v e)
  | 0, v, m, h => by
    rw [Nat.min_zero, Int.pow_zero, Int.ediv_one]
    rfl
  | e + 1, 0, m, h => by
    unfold partF
    rw [Int.pow_zero, Int.one_mul, if_neg (by omega), Nat.zero_min, Int.pow_zero, Int.ediv_one]
    rfl
  | e + 1, v + 1, m, h => by
    unfold partF
    rw [if_pos (two_even v m).1, (two_even v m).2, partF_val e v m h, Nat.succ_min_succ]
    refine Prod.ext ?_ ?_
    · show 2 ^ v * m / 2 ^ min v e = 2 ^ (v + 1) * m / 2 ^ (min v e + 1)
      rw [Int.pow_succ, Int.pow_succ, Int.mul_comm (2 ^ v) 2, Int.mul_comm (2 ^ min v e) 2, Int.mul_assoc, Int.mul_ediv_mul_of_pos _ _ (by decide)]
    · show e - min v e = e + 1 - (min v e + 1)
      omega
theorem partF_shift (e k : Nat) (n : Int) : partF (e + k) (n * 2 ^ k) = partF e n := by
  induction k with
  | zero => rw [Int.pow_zero, Int.mul_one]; rfl
  | succ k ih =>
    show (if (n * 2 ^ (k + 1)) % 2 = 0 then partF (e + k) ((n * 2 ^ (k + 1)) / 2) else (n * 2 ^ (k + 1), e + k + 1)) = partF e n
    have e1 : n * 2 ^ (k + 1) = 2 * (n * 2 ^ k) := by
      rw [Int.pow_succ, ← Int.mul_assoc, Int.mul_comm]
    rw [if_pos (by rw [e1]; omega), show n * 2 ^ (k + 1) / 2 = n * 2 ^ k by rw [e1]; omega]
    exact ih
theorem partF_is : ∀ (e : Nat) (n : Int), (partF e n).2 = 0 ∨ (partF e n).1 % 2 = 1
  | 0, n => .inl rfl
  | e + 1, n => by
    unfold partF
    by_cases h : n % 2 = 0
    · rw [if_pos h]
      exact partF_is e _
    · rw [if_neg h]
      right
      show n % 2 = 1
      omega
theorem partF_le : ∀ (e : Nat) (n : Int), (partF e n).1.natAbs ≤ n.natAbs ∧ (partF e n).2 ≤ e
  | 0, n => ⟨Nat.le_refl _, Nat.le_refl _⟩
  | e + 1, n => by
    unfold partF
    by_cases h : n % 2 = 0
    · rw [if_pos h]
      have := partF_le e (n / 2)
      omega
    · rw [if_neg h]
      exact ⟨Nat.le_refl _, Nat.le_refl _⟩
/-- what is a part already stays -/
theorem partF_id {e : Nat} {n : Int} (h : e = 0 ∨ n % 2 = 1) : partF e n = (n, e) := by
  cases e with
  | zero => rfl
  | succ e =>
    unfold partF
    rw [if_neg (by omega)]
theorem sum_shift (a b : Int) (e1 e2 : Nat) : partF (max e1 e2) (a * 2 ^ (max e1 e2 - e1) + b * 2 ^ (max e1 e2 - e2)) = partF (e1 + e2) (a * 2 ^ e2 + b * 2 ^ e1) := by
  have h1 : max e1 e2 + min e1 e2 = e1 + e2 := by omega
  rw [← partF_shift (max e1 e2) (min e1 e2), h1, Int.add_mul, Int.mul_assoc, Int.mul_assoc, ← Int.pow_add, ← Int.pow_add, show max e1 e2 - e1 + min e1 e2 = e2 by omega, show max e1 e2 - e2 + min e1 e2 = e1 by omega]
theorem bits_least {n c : Nat} (h : n < 2 ^ c) (h' : ∀ d, d < c → 2 ^ d ≤ n) : Builtin.Int.intBits (n : Int) = c := by
  unfold Builtin.Int.intBits
  by_cases h0 : n = 0
  · subst h0
    rw [if_pos (show ((((0 : Nat) : Int) == 0) = true) from rfl)]
    cases c with
    | zero => rfl
    | succ c => have := h' 0 (by omega); simp at this
  · rw [if_neg (show ¬ (((n : Int) == 0) = true) from fun z => by
      have := eq_of_beq z
      omega), Int.natAbs_natCast]
    cases c with
    | zero => simp at h; omega
    | succ c =>
      have h1 := h' c (by omega)
      have := (Nat.log2_eq_iff h0 (k := c)).mpr ⟨h1, h⟩
      omega
end Zk
local macro_rules | `(tactic| walk_at "z0") => `(tactic| first
  | ((with_reducible refine Zk.z_var (v := ?zv) ?zh ?_); (case zh => exact rfl))
  | (with_reducible refine Zk.z_c ?_)
  | (with_reducible refine Zk.z_op ?_)
  | (with_reducible refine Zk.z_un ?_)
  | (with_reducible refine Zk.z_I0 ?_)
  | (with_reducible refine Zk.z_U ?_)
  | (with_reducible refine Zk.z_eqI ?_)
  | (with_reducible refine Zk.z_neI ?_)
  | (with_reducible refine Zk.z_eqB ?_)
  | (with_reducible refine Zk.z_neB ?_)
  | (with_reducible refine Zk.z_isB ?_)
  | (with_reducible refine Zk.z_notB ?_)
  | (with_reducible refine Zk.z_nil ?_)
  | (with_reducible refine Zk.z_cons ?_)
  | (with_reducible refine Zk.z_tup ?_)
  | (with_reducible refine Zk.z_lst ?_)
  | (with_reducible refine Zk.z_call ?_)
  | (with_reducible refine Zk.z_cb ?_)
  | (with_reducible refine Zk.z_orV ?_)
  | (with_reducible refine Zk.z_notV ?_)
  | (with_reducible refine Zk.z_ebl ?_)
  | (with_reducible refine Zk.z_eint ?_)
  | (with_reducible refine Zk.z_test ?_)
  | (with_reducible refine Zk.z_B ?_)
  | (with_reducible refine Zk.z_or ?_)
  | (with_reducible refine Zk.z_not ?_)
  | (with_reducible refine Zk.z_yes ?_)
  | (with_reducible refine Zk.z_seq ?_)
  | (with_reducible refine Zk.z_next ?_)
  | (with_reducible refine Zk.z_asg ?_)
  | (with_reducible refine Zk.z_name ?_)
  | (with_reducible refine Zk.z_ret ?_)
  | (with_reducible refine Zk.z_retN ?_)
  | (with_reducible refine Zk.z_drop ?_)
  | (with_reducible refine Zk.z_if ?_)
  | (with_reducible refine Zk.z_par ?_)
  | (with_reducible refine Zk.z_par2 ?_)
  | (with_reducible refine Zk.z_gSub ?_)
  | (with_reducible refine Zk.z_gCons ?_)
  | (with_reducible refine Zk.z_gNil ?_)
  | ((with_reducible refine Zk.z_pow ?zh ?_); (case zh => exact ⟨by decide, by decide, by decide⟩))
  | ((with_reducible refine Zk.z_modN ?zh ?_); (case zh => first | decide | omega))
  | (with_reducible refine Zk.z_for ?_)
  | (with_reducible refine Zk.z_rng1 ?_)
  | (with_reducible refine Zk.z_iL ?_)
  | (with_reducible refine Zk.z_iT ?_)
  | (with_reducible refine Zk.z_bm ?_)
  | (with_reducible refine Zk.z_bits ?_)
  | (with_reducible refine Zk.z_sl ?_)
  | (with_reducible refine Zk.z_noPart ?_)
  | (with_reducible refine Zk.z_part ?_)
  | (with_reducible refine Zk.z_chain ?_)
  | (with_reducible refine Zk.z_abs ?_)
  | (with_reducible refine Zk.z_intB ?_)
  | (with_reducible refine L2.iteT ?_)
  | (with_reducible refine L2.iteF ?_)
  | ((with_reducible refine Zk.z_itT ?zh ?_); (case zh => exact rfl))
  | ((with_reducible refine Zk.z_itF ?zh ?_); (case zh => exact rfl)))
local macro_rules | `(tactic| walk_at "z") => `(tactic| first
  | (walk_at "z0")
  | (with_reducible refine Zk.z_andV ?_)
  | (with_reducible refine Zk.z_and ?_)
  | (with_reducible refine Zk.z_orT ?_))
local macro_rules | `(tactic| walk_at "zy") => `(tactic| repeat (walk_at "z0"))
local macro_rules | `(tactic| walk_at "zz") => `(tactic| repeat (walk_at "z"))
local macro_rules | `(tactic| walk_at "lk") => `(tactic| first
  | assumption
  | ((refine Zk.same_get (by assumption) ?_); walk_at "lk")
  | ((refine Zk.Dr.tup (by assumption) ?_); walk_at "lk"))
namespace Zl
open PySem PySem.Spec PyProof.Rows L2 Zk
def topS (i : Nat) : Stmt := PySem.Challenge.pw_sumtold_k02_what_is_a_pair_or_part.main.body.getD i (.Pass ⟨0, 0, 0, 0⟩)
abbrev s_is_whole_number : Stmt := topS 1
theorem sc_is_whole_number : FnScope ["thing"] ["thing"] (defScope s_is_whole_number) := ⟨rfl, rfl, rfl, by decide +kernel, rfl, by decide +kernel, by decide +kernel⟩
abbrev s_is_two_whole_numbers : Stmt := topS 2
theorem sc_is_two_whole_numbers : FnScope ["thing"] ["thing"] (defScope s_is_two_whole_numbers) := ⟨rfl, rfl, rfl, by decide +kernel, rfl, by decide +kernel, by decide +kernel⟩
abbrev s_greatest_divisor : Stmt := topS 3
theorem sc_greatest_divisor : FnScope ["one", "other"] ["one", "other"] (defScope s_greatest_divisor) := ⟨rfl, rfl, rfl, by decide +kernel, rfl, by decide +kernel, by decide +kernel⟩
abbrev s_pair : Stmt := topS 4
theorem sc_pair : FnScope ["num", "den", "divisor"] ["num", "den"] (defScope s_pair) := ⟨rfl, rfl, rfl, by decide +kernel, rfl, by decide +kernel, by decide +kernel⟩
abbrev s_is_pair : Stmt := topS 5
theorem sc_is_pair : FnScope ["thing", "num", "den"] ["thing"] (defScope s_is_pair) := ⟨rfl, rfl, rfl, by decide +kernel, rfl, by decide +kernel, by decide +kernel⟩
abbrev s_part : Stmt := topS 6
theorem sc_part : FnScope ["num", "e", "twos", "dropped"] ["num", "e"] (defScope s_part) := ⟨rfl, rfl, rfl, by decide +kernel, rfl, by decide +kernel, by decide +kernel⟩
abbrev s_is_part : Stmt := topS 7
theorem sc_is_part : FnScope ["thing", "num", "e"] ["thing"] (defScope s_is_part) := ⟨rfl, rfl, rfl, by decide +kernel, rfl, by decide +kernel, by decide +kernel⟩
abbrev s__law_cell_at : Stmt := topS 9
theorem sc__law_cell_at : FnScope ["_law_script", "_law_k"] ["_law_script", "_law_k"] (defScope s__law_cell_at) := ⟨rfl, rfl, rfl, by decide +kernel, rfl, by decide +kernel, by decide +kernel⟩
abbrev s__law_begin : Stmt := topS 10
theorem sc__law_begin : FnScope ["_law_cell"] ["_law_cell"] (defScope s__law_begin) := ⟨rfl, rfl, rfl, by decide +kernel, rfl, by decide +kernel, by decide +kernel⟩
abbrev s__law_draw : Stmt := topS 11
theorem sc__law_draw : FnScope ["_law_source", "_law_most", "_law_found", "_law_number"] ["_law_source", "_law_most"] (defScope s__law_draw) := ⟨rfl, rfl, rfl, by decide +kernel, rfl, by decide +kernel, by decide +kernel⟩
abbrev s__law_far : Stmt := topS 12
theorem sc__law_far : FnScope ["_law_source", "_law_way", "_law_small", "_law_great", "_law_k", "_law_twos"] ["_law_source"] (defScope s__law_far) := ⟨rfl, rfl, rfl, by decide +kernel, rfl, by decide +kernel, by decide +kernel⟩
abbrev s__law_spoilt : Stmt := topS 13
theorem sc__law_spoilt : FnScope ["_law_source", "_law_good", "_law_odd", "_law_at", "_law_some"] ["_law_source", "_law_good"] (defScope s__law_spoilt) := ⟨rfl, rfl, rfl, by decide +kernel, rfl, by decide +kernel, by decide +kernel⟩
abbrev s__law_is : Stmt := topS 14
theorem sc__law_is : FnScope ["_law_asked", "_law_thing", "_law_due", "_law_found"] ["_law_asked", "_law_thing", "_law_due"] (defScope s__law_is) := ⟨rfl, rfl, rfl, by decide +kernel, rfl, by decide +kernel, by decide +kernel⟩
abbrev s_law : Stmt := topS 15
theorem sc_law : FnScope ["_law_script", "_law_cell", "_law_source", "_law_num", "_law_den", "_law_e", "_law_good", "_law_some", "_law_more", "_law_tower", "_law_k", "_law_odd", "_law_one"] ["_law_script"] (defScope s_law) := ⟨rfl, rfl, rfl, by decide +kernel, rfl, by decide +kernel, by decide +kernel⟩
section
variable {P : Program} {w : World} {K : PySem.W.Frag} {mg : Str → Option Value} {base : Heap}
def spGcd : Sp := fun vs H Q _ => ∃ a b : Int, vs = [.int a, .int b] ∧ Q (.int ((Nat.gcd a.natAbs b.natAbs : Nat) : Int)) H
theorem ok_greatest_divisor {f : Addr} {fd : FuncData} (F : FnP K "greatest_divisor" s_greatest_divisor f fd) (m_abs : mg "abs" = none) : FnOk P w K mg base CX0 1 f fd ["one", "other"] spGcd := by
  refine F.ok sc_greatest_divisor (fun vs H Q E h => ?_) (fun cdv A outer s H vs Q E hr h => ?_)
  · obtain ⟨a, b, rfl, _⟩ := h; rfl
  obtain ⟨a, b, rfl, q⟩ := h
  refine ⟨_, PSs.nox (pss_cons (ps_par (i := 0) (j := 1) (by rfl) sc_greatest_divisor.nd rfl rfl (by decide) rfl rfl (pa_cons (pe_callB call_absE (by rfl) m_abs (by decide +kernel) (pa_cons (pv 0) pa_nil)) (pa_cons (pe_callB call_absE (by rfl) m_abs (by decide +kernel) (pa_cons (pv 1) pa_nil)) pa_nil)) (by rfl))
  (pss_cons (ps_while PassesOwn.never (pt_cmpR op_ne (pv 1) pe_int (nomark _))
    (pss_one (ps_par (i := 0) (j := 1) (by rfl) sc_greatest_divisor.nd rfl rfl (by decide) rfl rfl (pa_cons (pv 1) (pa_cons (pe_op op_modN (pv 0) (pv 1)) pa_nil)) (by rfl))))
  (pss_one (ps_ret (pv 0))))), ?_⟩
  walk_at "zz"
  refine while_by (fun σ H' => ∃ n m : Nat, σ = [some (.int (n : Int)), some (.int (m : Int))] ∧ H' = H ∧ Nat.gcd n m = Nat.gcd a.natAbs b.natAbs) (fun σ _ => match σ with | [_, some (.int m)] => m.toNat | _ => 0) ⟨a.natAbs, b.natAbs, ?_, rfl, rfl⟩ ?_ ?_
  · rfl
  · rintro σ H' ⟨n, m, rfl, rfl, hg⟩
    walk_at "zz"
    refine z_nite (fun h0 => ?_) (fun h0 => ?_)
    · walk_at "zz"
      refine ⟨⟨m, n % m, ?_, rfl, ?_⟩, ?_⟩
      · rw [Int.fmod_eq_emod_of_nonneg _ (by omega), ← Int.natCast_emod]
        rfl
      · rw [← hg, Nat.gcd_comm m, ← Nat.gcd_rec, Nat.gcd_comm]
      · show (Int.fmod (n : Int) (m : Int)).toNat < ((m : Int)).toNat
        rw [Int.fmod_eq_emod_of_nonneg _ (by omega), ← Int.natCast_emod, Int.toNat_natCast, Int.toNat_natCast]
        exact Nat.mod_lt _ (by omega)
    · walk_at "zz"
      have e : m = 0 := by omega
      rw [e, Nat.gcd_zero_right] at hg
      rw [hg]
      exact q
  · intro σ H Q Q' hQ h
    exact mono_neI hQ h
def spPair (K : PySem.W.Frag) : Sp := fun vs H Q _ => ∃ n d : Int, vs = [.int n, .int d] ∧ d ≠ 0 ∧ d.natAbs < 2 ^ 8000 ∧ ∀ p H', H p = none → Same H H' → H' p = some (.tup [.int (pn n d), .int (pd n d)]) → Q (.ref p) H'
theorem ok_pair {f : Addr} {fd : FuncData} (F : FnP K "pair" s_pair f fd) (h_greatest_divisor : Has P w K mg base 1 "greatest_divisor" ["one", "other"] spGcd) : FnOk P w K mg base CX0 2 f fd ["num", "den"] (spPair K) := by
  refine F.ok sc_pair (fun vs H Q E h => ?_) (fun cdv A outer s H vs Q E hr h => ?_)
  · obtain ⟨n, d, rfl, _⟩ := h; rfl
  obtain ⟨n, d, rfl, h0, hb, q⟩ := h
  refine ⟨_, PSs.nox (pss_cons (ps_set (i := 2) sc_pair.nd rfl (.inl rfl) (pe_callH h_greatest_divisor (hr.mono (by decide)) (by rfl) (pa_cons (pv 0) (pa_cons (pv 1) pa_nil))))
  (pss_cons (ps_if (pt_cmpR op_lt (pv 1) pe_int (nomark _))
    (pss_one (ps_set (i := 2) sc_pair.nd rfl (.inl rfl) (pe_un un_neg (pv 2))))
    pss_nil)
  (pss_one (ps_ret (pe_tup (pa_cons (pe_op op_fdivA (pv 0) (pv 2)) (pa_cons (pe_op op_fdivA (pv 1) (pv 2)) pa_nil))))))), ?_⟩
  have hd : ∀ x : Int, CDivA x (dvs n d) := fun x => divA (n := 8000) (dvs_ne h0) (by
    rw [dvs_abs]
    exact Nat.lt_of_le_of_lt (Nat.gcd_le_right _ (by omega)) hb) (by decide) (by decide)
  have e : ∀ b : Bool, b = decide (d < 0) → dvs n d = if b = true then -((Nat.gcd n.natAbs d.natAbs : Nat) : Int) else ((Nat.gcd n.natAbs d.natAbs : Nat) : Int) := by
    intro b hb
    rw [hb]
    unfold dvs
    by_cases h : d < 0
    · rw [if_pos h, if_pos (decide_eq_true h)]
    · rw [if_neg h, if_neg (by simpa using h)]
  walk_at "zz"
  refine ⟨n, d, rfl, ?_⟩
  walk_at "zz"
  refine z_ite (fun h => ?_) (fun h => ?_)
  all_goals
    walk_at "zz"
    have ed := e _ rfl
    simp only [h, decide_true, decide_false, if_true, Bool.false_eq_true, if_false] at ed
    rw [← ed]
    refine z_I (hd _) ?_
    walk_at "zz"
    refine z_I (hd _) ?_
    walk_at "zz"
    exact z_new (by simp) q
def spWhole (K : PySem.W.Frag) : Sp := fun vs H Q _ => ∃ (x : V) (n : String) (a b : Bool), vs = [x] ∧ TyX K H x (.type n) ∧ kitB n "int" = some a ∧ kitB n "bool" = some b ∧ Q (.bl (a && !b)) H
theorem ok_is_whole_number {f : Addr} {fd : FuncData} (F : FnP K "is_whole_number" s_is_whole_number f fd) (m_isinstance : mg "isinstance" = none) (m_int : mg "int" = none) (m_bool : mg "bool" = none) : FnOk P w K mg base CX0 1 f fd ["thing"] (spWhole K) := by
  refine F.ok sc_is_whole_number (fun vs H Q E h => ?_) (fun cdv A outer s H vs Q E hr h => ?_)
  · obtain ⟨x, n, a, b, rfl, _⟩ := h; rfl
  obtain ⟨x, n, a, b, rfl, ty, ha, hb, q⟩ := h
  refine ⟨_, PSs.nox (pss_one (ps_ret (pe_and (pe_callB (call_isiE K) (by rfl) m_isinstance (by decide +kernel) (pa_cons (pv 0) (pa_cons (pe_bltn (v := .ty "int") (by rfl) m_int (by decide +kernel) rfl) pa_nil))) (pe_one (pe_not (pe_callB (call_isiE K) (by rfl) m_isinstance (by decide +kernel) (pa_cons (pv 0) (pa_cons (pe_bltn (v := .ty "bool") (by rfl) m_bool (by decide +kernel) rfl) pa_nil)))))))), ?_⟩
  walk_at "zz"
  refine z_isi ty ha ?_
  walk_at "zz"
  cases a with
  | true =>
    walk_at "zz"
    refine z_isi ty hb ?_
    walk_at "zz"
    exact q
  | false =>
    walk_at "zz"
    exact q
def WholeV (K : PySem.W.Frag) (H : Hp) (x : V) (k : Bool) : Prop := ∃ (n : String) (a b : Bool), TyX K H x (.type n) ∧ kitB n "int" = some a ∧ kitB n "bool" = some b ∧ k = (a && !b)
theorem wholeI {K : PySem.W.Frag} {H : Hp} (x : Int) : WholeV K H (.int x) true := ⟨"int", true, false, .base (.int x), by decide +kernel, by decide +kernel, rfl⟩
def spTwo (K : PySem.W.Frag) : Sp := fun vs H Q _ => ∃ x, vs = [x] ∧ ((∃ n, TyX K H x (.type n) ∧ kitB n "tuple" = some false ∧ Q (.bl false) H) ∨ ∃ p xs, x = .ref p ∧ H p = some (.tup xs) ∧ ((xs.length ≠ 2 ∧ Q (.bl false) H) ∨ ∃ v1 v2 k1 k2, xs = [v1, v2] ∧ WholeV K H v1 k1 ∧ WholeV K H v2 k2 ∧ Q (.bl (k1 && k2)) H))
theorem ok_is_two_whole_numbers {f : Addr} {fd : FuncData} (F : FnP K "is_two_whole_numbers" s_is_two_whole_numbers f fd) (m_isinstance : mg "isinstance" = none) (m_tuple : mg "tuple" = none) (m_len : mg "len" = none) (h_is_whole_number : Has P w K mg base 1 "is_whole_number" ["thing"] (spWhole K)) : FnOk P w K mg base CX0 2 f fd ["thing"] (spTwo K) := by
  refine F.ok sc_is_two_whole_numbers (fun vs H Q E h => ?_) (fun cdv A outer s H vs Q E hr h => ?_)
  · obtain ⟨x, rfl, _⟩ := h; rfl
  obtain ⟨x, rfl, h⟩ := h
  refine ⟨_, PSs.nox (pss_cons (ps_if (PW.pt (pw_or (pt_not (pt_val (pe_callB (call_isiE K) (by rfl) m_isinstance (by decide +kernel) (pa_cons (pv 0) (pa_cons (pe_bltn (v := .ty "tuple") (by rfl) m_tuple (by decide +kernel) rfl) pa_nil))))) (pw_or1 (pt_cmpR op_ne (pe_callB (call_lenE K) (by rfl) m_len (by decide +kernel) (pa_cons (pv 0) pa_nil)) pe_int (nomark _)))))
    (pss_one (ps_ret pe_bl))
    pss_nil)
  (pss_one (ps_ret (pe_and (pe_callH h_is_whole_number (hr.mono (by decide)) (by rfl) (pa_cons (pe_ix (ix_tupE K) (pv 0) pe_int (fun _ _ => rfl)) pa_nil)) (pe_one (pe_callH h_is_whole_number (hr.mono (by decide)) (by rfl) (pa_cons (pe_ix (ix_tupE K) (pv 0) pe_int (fun _ _ => rfl)) pa_nil))))))), ?_⟩
  walk_at "zz"
  rcases h with ⟨n, ty, hk, q⟩ | ⟨p, xs, rfl, hp, h⟩
  · refine z_isi ty hk ?_
    walk_at "zz"
    exact q
  · refine z_isi (n := "tuple") (k := true) (.base (.tup hp)) (by decide +kernel) ?_
    walk_at "zz"
    refine z_lenT hp ?_
    walk_at "zz"
    rcases h with ⟨hl, q⟩ | ⟨v1, v2, k1, k2, rfl, ⟨n1, a1, b1, t1, c1, e1, rfl⟩, ⟨n2, a2, b2, t2, c2, e2, rfl⟩, q⟩
    · refine z_nite (fun _ => ?_) (fun h => absurd h (by omega))
      walk_at "zz"
      exact q
    · refine z_nite (fun h => absurd rfl h) (fun _ => ?_)
      walk_at "zz"
      refine z_ixT (SqT.of hp) (v := v1) rfl ?_
      walk_at "zz"
      refine ⟨v1, n1, a1, b1, rfl, t1, c1, e1, ?_⟩
      walk_at "zz"
      cases hb : (a1 && !b1) with
      | true =>
        rw [hb] at q
        walk_at "zz"
        refine z_ixT (SqT.of hp) (v := v2) rfl ?_
        walk_at "zz"
        exact ⟨v2, n2, a2, b2, rfl, t2, c2, e2, q⟩
      | false =>
        rw [hb] at q
        walk_at "zz"
        exact q
def prB (x y : Int) : Bool := decide (0 < y) && decide (Nat.gcd x.natAbs y.natAbs = 1)
theorem prB_low {x y : Int} (h : Low x y) : prB x y = true := by
  unfold prB
  rw [decide_eq_true h.pos, decide_eq_true h.one]
  rfl
/-- what is_pair is asked of -/
def PairQ (K : PySem.W.Frag) (H : Hp) (x : V) (k : Bool) : Prop := (k = false ∧ ∃ n, TyX K H x (.type n) ∧ kitB n "tuple" = some false) ∨ ∃ p xs, x = .ref p ∧ H p = some (.tup xs) ∧ ((k = false ∧ xs.length ≠ 2) ∨ (∃ a b, xs = [.int a, .int b] ∧ k = prB a b) ∨ (k = false ∧ ∃ v1 v2 k1 k2, xs = [v1, v2] ∧ WholeV K H v1 k1 ∧ WholeV K H v2 k2 ∧ (k1 && k2) = false))
def spIsPair (K : PySem.W.Frag) : Sp := fun vs H Q _ => ∃ x k, vs = [x] ∧ PairQ K H x k ∧ Q (.bl k) H
theorem ok_is_pair {f : Addr} {fd : FuncData} (F : FnP K "is_pair" s_is_pair f fd) (h_is_two_whole_numbers : Has P w K mg base 2 "is_two_whole_numbers" ["thing"] (spTwo K)) (h_greatest_divisor : Has P w K mg base 1 "greatest_divisor" ["one", "other"] spGcd) : FnOk P w K mg base CX0 3 f fd ["thing"] (spIsPair K) := by
  refine F.ok sc_is_pair (fun vs H Q E h => ?_) (fun cdv A outer s H vs Q E hr h => ?_)
  · obtain ⟨x, k, rfl, _⟩ := h; rfl
  obtain ⟨x, k, rfl, h, q⟩ := h
  refine ⟨_, PSs.nox (pss_cons (ps_if (pt_not (pt_val (pe_callH h_is_two_whole_numbers (hr.mono (by decide)) (by rfl) (pa_cons (pv 0) pa_nil))))
    (pss_one (ps_ret pe_bl))
    pss_nil)
  (pss_cons (ps_asg (pv 0) (pg_tup rfl (pgs_cons (pg_name (i := 1) sc_is_pair.nd rfl (.inl rfl)) (pgs_cons (pg_name (i := 2) sc_is_pair.nd rfl (.inl rfl)) pgs_nil))))
  (pss_one (ps_ret (pe_and (pe_cmpR op_gt (pv 2) pe_int (nomark _)) (pe_one (pe_cmpR op_eq (pe_callH h_greatest_divisor (hr.mono (by decide)) (by rfl) (pa_cons (pv 1) (pa_cons (pv 2) pa_nil))) pe_int (nomark _)))))))), ?_⟩
  walk_at "zz"
  rcases h with ⟨rfl, n, ty, hk⟩ | ⟨p, xs, rfl, hp, ⟨rfl, hl⟩ | ⟨a, b, rfl, rfl⟩ | ⟨rfl, v1, v2, k1, k2, rfl, t1, t2, hk⟩⟩
  · refine ⟨x, rfl, .inl ⟨n, ty, hk, ?_⟩⟩
    walk_at "zz"
    exact q
  · refine ⟨.ref p, rfl, .inr ⟨p, xs, rfl, hp, .inl ⟨hl, ?_⟩⟩⟩
    walk_at "zz"
    exact q
  · refine ⟨.ref p, rfl, .inr ⟨p, _, rfl, hp, .inr ⟨_, _, true, true, rfl, wholeI a, wholeI b, ?_⟩⟩⟩
    walk_at "zz"
    refine z_gTup (SqT.of hp) rfl ?_
    walk_at "zz"
    unfold prB at q
    by_cases h0 : 0 < b
    · rw [decide_eq_true h0] at q ⊢
      walk_at "zz"
      refine ⟨a, b, rfl, ?_⟩
      walk_at "zz"
      refine bool_bl ?_ q
      rw [Bool.true_and]
      exact decide_eq_decide.mpr (by omega)
    · rw [decide_eq_false h0] at q ⊢
      walk_at "zz"
      exact q
  · refine ⟨.ref p, rfl, .inr ⟨p, _, rfl, hp, .inr ⟨v1, v2, k1, k2, rfl, t1, t2, ?_⟩⟩⟩
    walk_at "zz"
    rw [hk]
    walk_at "zz"
    exact q
def spPart : Sp := fun vs H Q _ => ∃ (n : Int) (e : Nat), vs = [.int n, .int (e : Int)] ∧ ∀ r H', H r = none → Same H H' → H' r = some (.tup [.int (partF e n).1, .int ((partF e n).2 : Int)]) → Q (.ref r) H'
theorem ok_part {f : Addr} {fd : FuncData} (F : FnP K "part" s_part f fd) (m_min : mg "min" = none) : FnOk P w K mg base CX0 1 f fd ["num", "e"] spPart := by
  refine F.ok sc_part (fun vs H Q E h => ?_) (fun cdv A outer s H vs Q E hr h => ?_)
  · obtain ⟨n, e, rfl, _⟩ := h; rfl
  obtain ⟨n, e, rfl, k⟩ := h
  refine ⟨_, PSs.nox (pss_cons (ps_if (pt_cmpR op_eq (pv 0) pe_int (nomark _))
    (pss_one (ps_ret (pe_tup (pa_cons pe_int (pa_cons pe_int pa_nil)))))
    pss_nil)
  (pss_cons (ps_set (i := 2) sc_part.nd rfl (.inl rfl) (pe_op op_sub (pe_bits (pe_op op_and (pv 0) (pe_un un_neg (pv 0)))) pe_int))
  (pss_cons (ps_set (i := 3) sc_part.nd rfl (.inl rfl) (pe_callB (call_min2E rfl) (by rfl) m_min (by decide +kernel) (pa_cons (pv 2) (pa_cons (pv 1) pa_nil))))
  (pss_one (ps_ret (pe_tup (pa_cons (pe_op op_shrA (pv 0) (pv 3)) (pa_cons (pe_op op_sub (pv 1) (pv 3)) pa_nil)))))))), ?_⟩
  walk_at "zz"
  refine z_ite (fun h => ?_) (fun h => ?_)
  · walk_at "zz"
    rw [h, partF_zero] at k
    exact z_new (by simp) k
  · walk_at "zz"
    obtain ⟨v, m, e1, e2, e3⟩ := bits_low h
    rw [e3, show (((v + 1 : Nat) : Int) - 1) = (v : Int) by omega]
    refine z_min2 ?_
    walk_at "zz"
    refine z_shrA (by omega) ?_
    walk_at "zz"
    have ep := partF_val e v m e2
    rw [← e1] at ep
    rw [ep] at k
    rw [Int.toNat_natCast, show (e : Int) - ((min v e : Nat) : Int) = ((e - min v e : Nat) : Int) by omega]
    exact z_new (by simp) k
def ptB (x y : Int) : Bool := decide (y = 0) || (decide (0 < y) && decide (x % 2 = 1))
/-- what is_part is asked of -/
def PartQ (K : PySem.W.Frag) (H : Hp) (x : V) (k : Bool) : Prop := (k = false ∧ ∃ n, TyX K H x (.type n) ∧ kitB n "tuple" = some false) ∨ ∃ p xs, x = .ref p ∧ H p = some (.tup xs) ∧ ((k = false ∧ xs.length ≠ 2) ∨ (∃ a b, xs = [.int a, .int b] ∧ k = ptB a b) ∨ (k = false ∧ ∃ v1 v2 k1 k2, xs = [v1, v2] ∧ WholeV K H v1 k1 ∧ WholeV K H v2 k2 ∧ (k1 && k2) = false))
def spIsPart (K : PySem.W.Frag) : Sp := fun vs H Q _ => ∃ x k, vs = [x] ∧ PartQ K H x k ∧ Q (.bl k) H
theorem ok_is_part {f : Addr} {fd : FuncData} (F : FnP K "is_part" s_is_part f fd) (h_is_two_whole_numbers : Has P w K mg base 2 "is_two_whole_numbers" ["thing"] (spTwo K)) : FnOk P w K mg base CX0 3 f fd ["thing"] (spIsPart K) := by
  refine F.ok sc_is_part (fun vs H Q E h => ?_) (fun cdv A outer s H vs Q E hr h => ?_)
  · obtain ⟨x, k, rfl, _⟩ := h; rfl
  obtain ⟨x, k, rfl, h, q⟩ := h
  refine ⟨_, PSs.nox (pss_cons (ps_if (pt_not (pt_val (pe_callH h_is_two_whole_numbers (hr.mono (by decide)) (by rfl) (pa_cons (pv 0) pa_nil))))
    (pss_one (ps_ret pe_bl))
    pss_nil)
  (pss_cons (ps_asg (pv 0) (pg_tup rfl (pgs_cons (pg_name (i := 1) sc_is_part.nd rfl (.inl rfl)) (pgs_cons (pg_name (i := 2) sc_is_part.nd rfl (.inl rfl)) pgs_nil))))
  (pss_one (ps_ret (pe_or (pe_cmpR op_eq (pv 2) pe_int (nomark _)) (pe_one (pe_and (pe_cmpR op_gt (pv 2) pe_int (nomark _)) (pe_one (pe_cmpR op_eq (pe_op op_and (pv 1) pe_int) pe_int (nomark _)))))))))), ?_⟩
  walk_at "zz"
  rcases h with ⟨rfl, n, ty, hk⟩ | ⟨p, xs, rfl, hp, ⟨rfl, hl⟩ | ⟨a, b, rfl, rfl⟩ | ⟨rfl, v1, v2, k1, k2, rfl, t1, t2, hk⟩⟩
  · refine ⟨x, rfl, .inl ⟨n, ty, hk, ?_⟩⟩
    walk_at "zz"
    exact q
  · refine ⟨.ref p, rfl, .inr ⟨p, xs, rfl, hp, .inl ⟨hl, ?_⟩⟩⟩
    walk_at "zz"
    exact q
  · refine ⟨.ref p, rfl, .inr ⟨p, _, rfl, hp, .inr ⟨_, _, true, true, rfl, wholeI a, wholeI b, ?_⟩⟩⟩
    walk_at "zz"
    refine z_gTup (SqT.of hp) rfl ?_
    walk_at "zz"
    unfold ptB at q
    by_cases h0 : b = 0
    · rw [decide_eq_true h0] at q ⊢
      walk_at "zz"
      exact q
    · rw [decide_eq_false h0] at q ⊢
      walk_at "zz"
      by_cases h1 : 0 < b
      · rw [decide_eq_true h1] at q ⊢
        walk_at "zz"
        rw [bitAnd_m1]
        exact q
      · rw [decide_eq_false h1] at q ⊢
        walk_at "zz"
        exact q
  · refine ⟨.ref p, rfl, .inr ⟨p, _, rfl, hp, .inr ⟨v1, v2, k1, k2, rfl, t1, t2, ?_⟩⟩⟩
    walk_at "zz"
    rw [hk]
    walk_at "zz"
    exact q
def spCell (K : PySem.W.Frag) : Sp := fun vs H Q _ => ∃ (a : Addr) (ns : List Int) (k : Nat), vs = [.ref a, .int (k : Int)] ∧ SqL K H a (ns.map V.int) ∧ ns.length ≤ 63 ∧ ∀ c : Int, Q (.int c) H
theorem ok__law_cell_at {f : Addr} {fd : FuncData} (F : FnP K "_law_cell_at" s__law_cell_at f fd) (m_len : mg "len" = none) : FnOk P w K mg base CX0 1 f fd ["_law_script", "_law_k"] (spCell K) := by
  refine F.ok sc__law_cell_at (fun vs H Q E h => ?_) (fun cdv A outer s H vs Q E hr h => ?_)
  · obtain ⟨a, ns, k, rfl, _⟩ := h; rfl
  obtain ⟨a, ns, k, rfl, hS, hl, q⟩ := h
  refine ⟨_, PSs.nox (pss_cons (ps_if (pt_cmpR op_lt (pv 1) (pe_callB (call_lenE K) (by rfl) m_len (by decide +kernel) (pa_cons (pv 0) pa_nil)) (nomark _))
    (pss_one (ps_ret (pe_ix (ix_listE K) (pv 0) (pv 1) (fun _ _ => rfl))))
    pss_nil)
  (pss_one (ps_ret pe_int))), ?_⟩
  walk_at "zz"
  refine z_lenL hS ?_
  rw [List.length_map]
  walk_at "zz"
  refine z_ite (fun h => ?_) (fun h => ?_)
  · walk_at "zz"
    have h1 : k < ns.length := by omega
    refine z_ixL hS (v := .int ns[k]) (atI_nat ?_) ?_
    · rw [List.getElem?_map, List.getElem?_eq_getElem h1]
      rfl
    · exact q _
  · walk_at "zz"
    exact q _
def spBegin (K : PySem.W.Frag) : Sp := fun vs H Q _ => ∃ c : Int, vs = [.int c] ∧ ∀ p H', H p = none → Same H H' → Src H' p → Q (.ref p) H'
theorem ok__law_begin {f : Addr} {fd : FuncData} (F : FnP K "_law_begin" s__law_begin f fd) (m_int : mg "int" = none) : FnOk P w K mg base CX0 1 f fd ["_law_cell"] (spBegin K) := by
  refine F.ok sc__law_begin (fun vs H Q E h => ?_) (fun cdv A outer s H vs Q E hr h => ?_)
  · obtain ⟨c, rfl, _⟩ := h; rfl
  obtain ⟨c, rfl, q⟩ := h
  refine ⟨_, PSs.nox (pss_one (ps_ret (pe_lst (pa_cons (pe_ix (ix_listE K) (pe_lst (pa_cons pe_int (pa_cons (pv 0) pa_nil))) (pe_callTy call_intE (by rfl) m_int (by decide +kernel) (pa_cons (pe_cmpR op_ge (pv 0) (pe_op op_pow pe_int pe_int) (nomark _)) pa_nil)) (fun _ _ => rfl)) (pa_cons (pe_op op_modN (pv 0) pe_int) (pa_cons pe_int pa_nil)))))), ?_⟩
  walk_at "zz"
  refine z_new (by simp) (fun p1 H1 n1 s1 h1 => ?_)
  walk_at "zz"
  obtain ⟨x, hx⟩ : ∃ x : Int, atI [V.int 0, V.int c] (if decide (((10 : Int) ^ Int.toNat 18) ≤ c) = true then 1 else 0) = some (.int x) := by
    by_cases h : ((10 : Int) ^ Int.toNat 18) ≤ c
    · exact ⟨c, by rw [decide_eq_true h]; rfl⟩
    · exact ⟨0, by rw [decide_eq_false h]; rfl⟩
  refine z_ixL (SqL.of h1) hx ?_
  walk_at "zz"
  refine z_new (by simp) (fun p2 H2 n2 s2 h2 => ?_)
  exact q p2 H2 (s1.free n2) (s1.trans s2) ⟨_, _, _, h2⟩
def spDraw : Sp := fun vs H Q _ => ∃ (s : Addr) (m : Int), vs = [.ref s, .int m] ∧ 0 < m ∧ m.natAbs < 2 ^ 8000 ∧ Src H s ∧ ∀ (r : Int) H', 0 ≤ r → r < m → Dr s H H' → Q (.int r) H'
theorem ok__law_draw {f : Addr} {fd : FuncData} (F : FnP K "_law_draw" s__law_draw f fd) : FnOk P w K mg base CX0 1 f fd ["_law_source", "_law_most"] spDraw := by
  refine F.ok sc__law_draw (fun vs H Q E h => ?_) (fun cdv A outer s H vs Q E hr h => ?_)
  · obtain ⟨s, m, rfl, _⟩ := h; rfl
  obtain ⟨s, m, rfl, h0, hm, ⟨a, b, c, hs⟩, q⟩ := h
  refine ⟨_, PSs.nox (pss_cons (ps_if (pt_cmpR op_gt (pe_ix (ix_listE K) (pv 0) pe_int (fun _ _ => rfl)) pe_int (nomark _))
    (pss_cons (ps_set (i := 2) sc__law_draw.nd rfl (.inl rfl) (pe_op op_modN (pe_ix (ix_listE K) (pv 0) pe_int (fun _ _ => rfl)) (pv 1)))
  (pss_cons (ps_asg (pe_op op_fdivA (pe_ix (ix_listE K) (pv 0) pe_int (fun _ _ => rfl)) (pv 1)) (pg_sub (pv 0) pe_int set_list))
  (pss_one (ps_ret (pv 2)))))
    pss_nil)
  (pss_cons (ps_asg (pe_op op_add (pe_ix (ix_listE K) (pv 0) pe_int (fun _ _ => rfl)) pe_int) (pg_sub (pv 0) pe_int set_list))
  (pss_cons (ps_set (i := 3) sc__law_draw.nd rfl (.inl rfl) (pe_op op_modN (pe_op op_mulA (pe_op op_add (pe_op op_add (pe_ix (ix_listE K) (pv 0) pe_int (fun _ _ => rfl)) (pe_op op_mulA pe_int (pe_ix (ix_listE K) (pv 0) pe_int (fun _ _ => rfl)))) pe_int) pe_int) pe_int))
  (pss_cons (ps_set (i := 3) sc__law_draw.nd rfl (.inl rfl) (pe_op op_modN (pe_op op_mulA (pv 3) (pe_op op_add (pe_op op_fdivA (pv 3) pe_int) pe_int)) pe_int))
  (pss_one (ps_ret (pe_op op_modN (pe_op op_modN (pe_op op_mulA (pv 3) (pe_op op_add (pe_op op_fdivA (pv 3) pe_int) pe_int)) pe_int) (pv 1)))))))), ?_⟩
  have md : ∀ x : Int, CDivA x m := fun x => divA (n := 8000) (by omega) hm (by decide) (by decide)
  have dr : ∀ {H' : Hp} {x y z : Int}, H' = upd H s (.lst [.int x, .int y, .int z]) → Dr s H H' := fun {H' x y z} e => by
    rw [e]
    exact ⟨fun u o n h => by rw [upd_ne n]; exact h, ⟨_, _, _, upd_same⟩, ⟨_, _, _, hs⟩⟩
  walk_at "zz"
  refine z_ixL (SqL.of hs) (v := .int a) rfl ?_
  walk_at "zz"
  refine z_ite (fun h => ?_) (fun h => ?_)
  · walk_at "zz"
    refine z_ixL (SqL.of hs) (v := .int a) rfl ?_
    walk_at "zz"
    refine z_ixL (SqL.of hs) (v := .int a) rfl ?_
    walk_at "zz"
    refine z_fdivA (md _) ?_
    walk_at "zz"
    refine z_setL hs (j := 0) rfl ?_
    walk_at "zz"
    exact q _ _ (Int.fmod_nonneg_of_pos _ h0) (Int.fmod_lt_of_pos _ h0) (dr rfl)
  · walk_at "zz"
    refine z_ixL (SqL.of hs) (v := .int c) rfl ?_
    walk_at "zz"
    refine z_setL hs (j := 2) rfl ?_
    have hs2 : (upd H s (.lst ([V.int a, V.int b, V.int c].set 2 (.int (c + 1))))) s = some (.lst [.int a, .int b, .int (c + 1)]) := upd_same
    walk_at "zz"
    refine z_ixL (SqL.of hs2) (v := .int b) rfl ?_
    walk_at "zz"
    refine z_ixL (SqL.of hs2) (v := .int (c + 1)) rfl ?_
    refine z_mulA (mulL (by decide)) ?_
    walk_at "zz"
    refine z_mulA (mulR (by decide)) ?_
    walk_at "zz"
    generalize hn : ((b + 7919 * (c + 1) + 1) * 48271).fmod 2147483647 = n
    have n0 : 0 ≤ n := by rw [← hn]; exact Int.fmod_nonneg_of_pos _ (by decide)
    have n1 : n < 2147483647 := by rw [← hn]; exact Int.fmod_lt_of_pos _ (by decide)
    refine z_fdivA ⟨by decide, by decide +kernel⟩ ?_
    walk_at "zz"
    refine z_mulA (mulL ⟨by omega, by omega⟩) ?_
    walk_at "zz"
    generalize hk : (n * (n.fdiv 1009 + 69621)).fmod 2147483647 = k
    have k0 : 0 ≤ k := by rw [← hk]; exact Int.fmod_nonneg_of_pos _ (by decide)
    have k1 : k < 2147483647 := by rw [← hk]; exact Int.fmod_lt_of_pos _ (by decide)
    refine z_fdivA ⟨by decide, by decide +kernel⟩ ?_
    walk_at "zz"
    refine z_mulA (mulL ⟨by omega, by omega⟩) ?_
    walk_at "zz"
    exact q _ _ (Int.fmod_nonneg_of_pos _ h0) (Int.fmod_lt_of_pos _ h0) (dr rfl)
def spFar : Sp := fun vs H Q _ => ∃ s : Addr, vs = [.ref s] ∧ Src H s ∧ ∀ (n : Int) H', n.natAbs < 2 ^ 200 → Dr s H H' → Q (.int n) H'
theorem ok__law_far {f : Addr} {fd : FuncData} (F : FnP K "_law_far" s__law_far f fd) (m_range : mg "range" = none) (h__law_draw : Has P w K mg base 1 "_law_draw" ["_law_source", "_law_most"] spDraw) : FnOk P w K mg base CX0 2 f fd ["_law_source"] spFar := by
  refine F.ok sc__law_far (fun vs H Q E h => ?_) (fun cdv A outer s H vs Q E hr h => ?_)
  · obtain ⟨s, rfl, _⟩ := h; rfl
  obtain ⟨s, rfl, hs, q⟩ := h
  refine ⟨_, PSs.nox (pss_cons (ps_set (i := 1) sc__law_far.nd rfl (.inl rfl) (pe_callH h__law_draw (hr.mono (by decide)) (by rfl) (pa_cons (pv 0) (pa_cons pe_int pa_nil))))
  (pss_cons (ps_set (i := 2) sc__law_far.nd rfl (.inl rfl) (pe_op op_sub (pe_callH h__law_draw (hr.mono (by decide)) (by rfl) (pa_cons (pv 0) (pa_cons pe_int pa_nil))) pe_int))
  (pss_cons (ps_set (i := 3) sc__law_far.nd rfl (.inl rfl) pe_int)
  (pss_cons (ps_for PassesOwn.never rfl (pi_range1 (by rfl) m_range (pa_cons (pe_op op_add pe_int (pe_callH h__law_draw (hr.mono (by decide)) (by rfl) (pa_cons (pv 0) (pa_cons pe_int pa_nil)))) pa_nil)) (pg_name (i := 4) sc__law_far.nd rfl (.inl rfl))
    (pss_one (ps_set (i := 3) sc__law_far.nd rfl (.inl rfl) (pe_op op_add (pe_op op_mulA (pv 3) (pe_op op_pow pe_int pe_int)) (pe_callH h__law_draw (hr.mono (by decide)) (by rfl) (pa_cons (pv 0) (pa_cons (pe_op op_pow pe_int pe_int) pa_nil)))))))
  (pss_cons (ps_set (i := 5) sc__law_far.nd rfl (.inl rfl) (pe_op op_sub (pe_op op_add (pe_op op_shlA pe_int (pe_callH h__law_draw (hr.mono (by decide)) (by rfl) (pa_cons (pv 0) (pa_cons pe_int pa_nil)))) (pe_callH h__law_draw (hr.mono (by decide)) (by rfl) (pa_cons (pv 0) (pa_cons pe_int pa_nil)))) pe_int))
  (pss_one (ps_ret (pe_ix (ix_listE K) (pe_lst (pa_cons (pv 2) (pa_cons (pv 2) (pa_cons (pv 3) (pa_cons (pe_op op_sub pe_int (pv 3)) (pa_cons (pv 5) (pa_cons (pe_op op_sub pe_int (pv 5)) pa_nil))))))) (pv 1) (fun _ _ => rfl))))))))), ?_⟩
  walk_at "zz"
  refine ⟨s, _, rfl, by decide, by decide +kernel, hs, fun way H1 w0 w1 d1 => ?_⟩
  walk_at "zz"
  refine ⟨s, _, rfl, by decide, by decide +kernel, d1.src, fun small H2 s0 s1 d2 => ?_⟩
  walk_at "zz"
  refine ⟨s, _, rfl, by decide, by decide +kernel, d2.src, fun many H3 m0 m1 d3 => ?_⟩
  walk_at "zz"
  refine ⟨_, rfl, by omega, by omega, for_range (lo := 0) (n := (1 + many).toNat) (fun i σ H' => ∃ (great : Int) (k : Option V), σ = [some (.ref s), some (.int way), some (.int (small - 6)), some (.int great), k, none] ∧ Dr s H H' ∧ 0 ≤ great ∧ great < 10000000000 ^ i) ⟨0, none, rfl, (d1.trans d2).trans d3, by decide, by decide⟩ ?_ ?_⟩
  · rintro i σ H4 hi ⟨great, k, rfl, d4, g0, g1⟩
    walk_at "zz"
    refine z_mulA (mulR (by decide)) ?_
    walk_at "zz"
    refine ⟨s, _, rfl, by decide, by decide +kernel, d4.src, fun x H5 x0 x1 d5 => ?_⟩
    walk_at "zz"
    have e : (10 : Int) ^ Int.toNat 10 = 10000000000 := by decide
    rw [e] at x1 ⊢
    refine ⟨great * 10000000000 + x, _, rfl, d4.trans d5, by omega, ?_⟩
    rw [Int.pow_succ]
    omega
  · rintro σ H4 ⟨great, k, rfl, d4, g0, g1⟩
    walk_at "zz"
    refine ⟨s, _, rfl, by decide, by decide +kernel, d4.src, fun x H5 x0 x1 d5 => ?_⟩
    obtain ⟨xn, rfl⟩ : ∃ xn : Nat, x = (xn : Int) := ⟨x.toNat, by omega⟩
    refine z_shlA (shl_ok (n := 1) (by decide) (by omega)) ?_
    walk_at "zz"
    refine ⟨s, _, rfl, by decide, by decide +kernel, d5.src, fun y H6 y0 y1 d6 => ?_⟩
    walk_at "zz"
    refine z_new (by simp) (fun p H7 np sm hp => ?_)
    walk_at "zz"
    have gb : great < 10000000000 ^ 6 := Int.lt_of_lt_of_le g1 (ipow_le (c := 10000000000) (by decide) (by omega))
    have e6 : (10000000000 : Int) ^ 6 = 10 ^ 60 := by decide
    have p1 : (2 : Int) ^ (Int.toNat (xn : Int)) ≤ 2 ^ 199 := by
      rw [Int.toNat_natCast]
      exact ipow_le (c := 2) (by decide) (by omega)
    have p0 : (0 : Int) < 2 ^ (Int.toNat (xn : Int)) := Int.pow_pos (by decide)
    have e199 : (2 : Int) ^ 199 * 2 = ((2 ^ 200 : Nat) : Int) := by decide
    have e60 : (10 : Int) ^ 60 < ((2 ^ 200 : Nat) : Int) := by decide
    have b : ∀ n : Int, -((2 ^ 200 : Nat) : Int) < n → n < ((2 ^ 200 : Nat) : Int) → n.natAbs < 2 ^ 200 := fun n h1 h2 => by omega
    have dd : Dr s H H7 := (d4.trans d5).trans (d6.trans (Dr.of_same d6.src sm))
    have e200 : (8 : Int) < 2 ^ 199 := by decide
    generalize hX : (2 : Int) ^ (Int.toNat (xn : Int)) = X at *
    generalize hZ : ((2 ^ 200 : Nat) : Int) = Z at *
    generalize hY : (2 : Int) ^ 199 = Y at *
    rcases (show way = 0 ∨ way = 1 ∨ way = 2 ∨ way = 3 ∨ way = 4 ∨ way = 5 by omega) with rfl | rfl | rfl | rfl | rfl | rfl
    · exact z_ixL (SqL.of hp) (v := .int (small - 6)) rfl (q _ _ (b _ (by omega) (by omega)) dd)
    · exact z_ixL (SqL.of hp) (v := .int (small - 6)) rfl (q _ _ (b _ (by omega) (by omega)) dd)
    · exact z_ixL (SqL.of hp) (v := .int great) rfl (q _ _ (b _ (by omega) (by omega)) dd)
    · exact z_ixL (SqL.of hp) (v := .int (0 - great)) rfl (q _ _ (b _ (by omega) (by omega)) dd)
    · exact z_ixL (SqL.of hp) (v := .int (1 * X + y - 1)) rfl (q _ _ (b _ (by omega) (by omega)) dd)
    · exact z_ixL (SqL.of hp) (v := .int (0 - (1 * X + y - 1))) rfl (q _ _ (b _ (by omega) (by omega)) dd)
/-- what is no whole number -/
inductive NI (s : Addr) (H : Hp) : V → Prop
  | bl (b : Bool) : NI s H (.bl b)
  | non : NI s H .non
  | str (z : Str) : NI s H (.str z)
  | lst {l : Addr} {xs : List V} : l ≠ s → H l = some (.lst xs) → NI s H (.ref l)
  | tup {l : Addr} {xs : List V} : H l = some (.tup xs) → NI s H (.ref l)
  | dct {l : Addr} : H l = some (.dK []) → NI s H (.ref l)
theorem NI.same {s : Addr} {H H' : Hp} {v : V} (e : Same H H') (h : NI s H v) : NI s H' v := by
  cases h with
  | bl b => exact .bl b
  | non => exact .non
  | str z => exact .str z
  | lst n h => exact .lst n (e _ _ h)
  | tup h => exact .tup (e _ _ h)
  | dct h => exact .dct (e _ _ h)
theorem NI.dr {s : Addr} {H H' : Hp} {v : V} (e : Dr s H H') (h : NI s H v) : NI s H' v := by
  cases h with
  | bl b => exact .bl b
  | non => exact .non
  | str z => exact .str z
  | lst n h => exact .lst n (e.keep _ _ n h)
  | tup h => exact .tup (e.tup h)
  | dct h =>
    obtain ⟨x, y, z, hs⟩ := e.src0
    exact .dct (e.keep _ _ (ne_of h hs (by intro q; cases q)) h)
theorem NI.whole {K : PySem.W.Frag} {s : Addr} {H : Hp} {v : V} (h : NI s H v) : WholeV K H v false := by
  cases h with
  | bl b => exact ⟨"bool", true, true, .base (.bl b), by decide +kernel, by decide +kernel, rfl⟩
  | non => exact ⟨"NoneType", false, false, .base .non, by decide +kernel, by decide +kernel, rfl⟩
  | str z => exact ⟨"str", false, false, .base (.str z), by decide +kernel, by decide +kernel, rfl⟩
  | lst n h => exact ⟨"list", false, false, .base (.lst h), by decide +kernel, by decide +kernel, rfl⟩
  | tup h => exact ⟨"tuple", false, false, .base (.tup h), by decide +kernel, by decide +kernel, rfl⟩
  | dct h => exact ⟨"dict", false, false, .base (.dK h), by decide +kernel, by decide +kernel, rfl⟩
/-- what is neither a pair nor a part -/
def Odd (K : PySem.W.Frag) (H : Hp) (x : V) : Prop := (∃ n, TyX K H x (.type n) ∧ kitB n "tuple" = some false) ∨ ∃ p xs, x = .ref p ∧ H p = some (.tup xs) ∧ (xs.length ≠ 2 ∨ (∃ a b, xs = [.int a, .int b] ∧ b < 0) ∨ (∃ v1 v2 k1 k2, xs = [v1, v2] ∧ WholeV K H v1 k1 ∧ WholeV K H v2 k2 ∧ (k1 && k2) = false))
theorem Odd.pair {K : PySem.W.Frag} {H : Hp} {x : V} (h : Odd K H x) : PairQ K H x false := by
  rcases h with h | ⟨p, xs, e, hp, h | ⟨a, b, e2, hb⟩ | h⟩
  · exact .inl ⟨rfl, h⟩
  · exact .inr ⟨p, xs, e, hp, .inl ⟨rfl, h⟩⟩
  · refine .inr ⟨p, xs, e, hp, .inr (.inl ⟨a, b, e2, ?_⟩)⟩
    unfold prB
    rw [decide_eq_false (show ¬ 0 < b by omega), Bool.false_and]
  · exact .inr ⟨p, xs, e, hp, .inr (.inr ⟨rfl, h⟩)⟩
theorem Odd.part {K : PySem.W.Frag} {H : Hp} {x : V} (h : Odd K H x) : PartQ K H x false := by
  rcases h with h | ⟨p, xs, e, hp, h | ⟨a, b, e2, hb⟩ | h⟩
  · exact .inl ⟨rfl, h⟩
  · exact .inr ⟨p, xs, e, hp, .inl ⟨rfl, h⟩⟩
  · refine .inr ⟨p, xs, e, hp, .inr (.inl ⟨a, b, e2, ?_⟩)⟩
    unfold ptB
    rw [decide_eq_false (show ¬ 0 < b by omega), decide_eq_false (show ¬ b = 0 by omega)]
    rfl
  · exact .inr ⟨p, xs, e, hp, .inr (.inr ⟨rfl, h⟩)⟩
def spSpoilt (K : PySem.W.Frag) : Sp := fun vs H Q _ => ∃ (s g : Addr) (x y : Int), vs = [.ref s, .ref g] ∧ Src H s ∧ H g = some (.tup [.int x, .int y]) ∧ x.natAbs < 2 ^ 1900 ∧ ∀ v H', Dr s H H' → Odd K H' v → Q v H'
theorem ok__law_spoilt {f : Addr} {fd : FuncData} (F : FnP K "_law_spoilt" s__law_spoilt f fd) (m_str : mg "str" = none) (m_list : mg "list" = none) (m_abs : mg "abs" = none) (h__law_draw : Has P w K mg base 1 "_law_draw" ["_law_source", "_law_most"] spDraw) : FnOk P w K mg base CX0 2 f fd ["_law_source", "_law_good"] (spSpoilt K) := by
  refine F.ok sc__law_spoilt (fun vs H Q E h => ?_) (fun cdv A outer s H vs Q E hr h => ?_)
  · obtain ⟨s, g, x, y, rfl, _⟩ := h; rfl
  obtain ⟨s, g, x, y, rfl, hs, hg, bx, q⟩ := h
  refine ⟨_, PSs.nox (pss_cons (ps_set (i := 2) sc__law_spoilt.nd rfl (.inl rfl) (pe_ix (ix_listE K) (pe_lst (pa_cons pe_bl (pa_cons pe_bl (pa_cons pe_non (pa_cons (pe_callTy call_str_int (by rfl) m_str (by decide +kernel) (pa_cons (pe_ix (ix_tupE K) (pv 1) pe_int (fun _ _ => rfl)) pa_nil)) (pa_cons (pe_lst (pa_cons (pe_ix (ix_tupE K) (pv 1) pe_int (fun _ _ => rfl)) pa_nil)) (pa_cons (pe_tup (pa_cons (pe_ix (ix_tupE K) (pv 1) pe_int (fun _ _ => rfl)) pa_nil)) (pa_cons pe_dnewK pa_nil)))))))) (pe_callH h__law_draw (hr.mono (by decide)) (by rfl) (pa_cons (pv 0) (pa_cons pe_int pa_nil))) (fun _ _ => rfl)))
  (pss_cons (ps_set (i := 3) sc__law_spoilt.nd rfl (.inl rfl) (pe_callH h__law_draw (hr.mono (by decide)) (by rfl) (pa_cons (pv 0) (pa_cons pe_int pa_nil))))
  (pss_cons (ps_set (i := 4) sc__law_spoilt.nd rfl (.inl rfl) (pe_lst (pa_cons (pe_op (op_catE K) (pe_op (op_catE K) (pe_slice (sl_tupE K) (pv 1) po_none (po_some (pv 3))) (pe_tup (pa_cons (pv 2) pa_nil))) (pe_slice (sl_tupE K) (pv 1) (po_some (pe_op op_add (pv 3) pe_int)) po_none)) (pa_cons (pe_op (op_catE K) (pe_op (op_catE K) (pe_slice (sl_tupE K) (pv 1) po_none (po_some (pv 3))) (pe_tup (pa_cons (pv 2) pa_nil))) (pe_slice (sl_tupE K) (pv 1) (po_some (pv 3)) po_none)) (pa_cons (pe_op (op_catE K) (pe_slice (sl_tupE K) (pv 1) po_none (po_some (pv 3))) (pe_slice (sl_tupE K) (pv 1) (po_some (pe_op op_add (pv 3) pe_int)) po_none)) pa_nil)))))
  (pss_cons (ps_set (i := 4) sc__law_spoilt.nd rfl (.inl rfl) (pe_op op_cat (pv 4) (pe_lst (pa_cons (pe_callTy (call_listE K) (by rfl) m_list (by decide +kernel) (pa_cons (pv 1) pa_nil)) (pa_cons (pe_tup (pa_cons (pe_ix (ix_tupE K) (pv 1) pe_int (fun _ _ => rfl)) (pa_cons (pe_op op_sub (pe_op op_sub pe_int pe_int) (pe_callB call_absE (by rfl) m_abs (by decide +kernel) (pa_cons (pe_ix (ix_tupE K) (pv 1) pe_int (fun _ _ => rfl)) pa_nil))) pa_nil))) (pa_cons (pe_tup (pa_cons (pv 1) pa_nil)) (pa_cons (pe_op (op_catE K) (pv 1) (pv 1)) (pa_cons (pe_op (op_catE K) (pv 1) (pe_tup (pa_cons pe_int pa_nil))) pa_nil))))))))
  (pss_cons (ps_set (i := 4) sc__law_spoilt.nd rfl (.inl rfl) (pe_op op_cat (pv 4) (pe_lst (pa_cons pe_non (pa_cons (pe_ix (ix_tupE K) (pv 1) pe_int (fun _ _ => rfl)) (pa_cons pe_str pa_nil))))))
  (pss_one (ps_ret (pe_ix (ix_listE K) (pv 4) (pe_callH h__law_draw (hr.mono (by decide)) (by rfl) (pa_cons (pv 0) (pa_cons pe_int pa_nil))) (fun _ _ => rfl))))))))), ?_⟩
  walk_at "zz"
  refine z_ixT (SqT.of hg) (v := .int x) rfl ?_
  walk_at "zz"
  refine ⟨x, rfl, Nat.lt_of_lt_of_le (PySem.Flt.log2_lt_of (by decide) bx) (by decide), ?_⟩
  walk_at "zz"
  refine z_ixT (SqT.of hg) (v := .int x) rfl ?_
  walk_at "zz"
  refine z_new (by simp) (fun l1 H1 n1 e1 h1 => ?_)
  walk_at "zz"
  refine z_ixT (SqT.of (e1 _ _ hg)) (v := .int x) rfl ?_
  walk_at "zz"
  refine z_new (by simp) (fun t2 H2 n2 e2 h2 => ?_)
  walk_at "zz"
  refine z_dnew (fun d3 H3 n3 e3 h3 => ?_)
  walk_at "zz"
  refine z_new (by simp) (fun l4 H4 n4 e4 h4 => ?_)
  have e04 := e1.trans (e2.trans (e3.trans e4))
  walk_at "zz"
  refine ⟨s, _, rfl, by decide, by decide +kernel, hs.same e04, fun r5 H5 r50 r51 d5 => ?_⟩
  have h45 := d5.keep _ _ ((((hs.same e1).same e2).same e3).ne n4) h4
  obtain ⟨odd, hpick, ho5⟩ : ∃ v, atI [V.bl true, V.bl false, V.non, V.str (toString x), V.ref l1, V.ref t2, V.ref d3] r5 = some v ∧ NI s H5 v := by
    have k1 : NI s H5 (.ref l1) := .lst (hs.ne n1) (d5.keep _ _ (hs.ne n1) (e4 _ _ (e3 _ _ (e2 _ _ h1))))
    have k2 : NI s H5 (.ref t2) := .tup (d5.tup (e4 _ _ (e3 _ _ h2)))
    have k3 : NI s H5 (.ref d3) := NI.dr d5 (.dct (e4 _ _ h3))
    rcases (show r5 = 0 ∨ r5 = 1 ∨ r5 = 2 ∨ r5 = 3 ∨ r5 = 4 ∨ r5 = 5 ∨ r5 = 6 by omega) with rfl | rfl | rfl | rfl | rfl | rfl | rfl
    · exact ⟨_, rfl, .bl _⟩
    · exact ⟨_, rfl, .bl _⟩
    · exact ⟨_, rfl, .non⟩
    · exact ⟨_, rfl, .str _⟩
    · exact ⟨_, rfl, k1⟩
    · exact ⟨_, rfl, k2⟩
    · exact ⟨_, rfl, k3⟩
  refine z_ixL (SqL.of h45) hpick ?_
  walk_at "zz"
  refine ⟨s, _, rfl, by decide, by decide +kernel, d5.src, fun at6 H6 a60 a61 d6 => ?_⟩
  have dA : Dr s H H6 := (Dr.of_same hs e04).trans (d5.trans d6)
  have hg6 := dA.tup hg
  have ho6 := ho5.dr d6
  walk_at "zz"
  -- good[:at] + (odd,) + good[at + 1:]
  refine z_slT hg6 (fun u7 H7 e7 h7 => ?_)
  walk_at "zz"
  refine z_new (by simp) (fun u8 H8 _ e8 h8 => ?_)
  refine z_catT (e8 _ _ h7) h8 (Nat.le_trans (Nat.add_le_add_right (cutV_length _ _ _) _) (by simp)) (fun u9 H9 e9 h9 => ?_)
  have hg9 := e9 _ _ (e8 _ _ (e7 _ _ hg6))
  walk_at "zz"
  refine z_slT hg9 (fun u10 H10 e10 h10 => ?_)
  have c2 : ∀ lo hi, (cutV [V.int x, V.int y] lo hi).length ≤ 2 := fun lo hi => cutV_length _ _ _
  refine z_catT (e10 _ _ h9) h10 (by rw [List.length_append]; have := c2 none (some at6); have := c2 (some (at6 + 1)) none; simp; omega) (fun u11 H11 e11 h11 => ?_)
  have hg11 := e11 _ _ (e10 _ _ hg9)
  walk_at "zz"
  -- good[:at] + (odd,) + good[at:]
  refine z_slT hg11 (fun u12 H12 e12 h12 => ?_)
  walk_at "zz"
  refine z_new (by simp) (fun u13 H13 _ e13 h13 => ?_)
  refine z_catT (e13 _ _ h12) h13 (Nat.le_trans (Nat.add_le_add_right (cutV_length _ _ _) _) (by simp)) (fun u14 H14 e14 h14 => ?_)
  have hg14 := e14 _ _ (e13 _ _ (e12 _ _ hg11))
  walk_at "zz"
  refine z_slT hg14 (fun u15 H15 e15 h15 => ?_)
  refine z_catT (e15 _ _ h14) h15 (by rw [List.length_append]; have := c2 none (some at6); have := c2 (some at6) none; simp; omega) (fun u16 H16 e16 h16 => ?_)
  have hg16 := e16 _ _ (e15 _ _ hg14)
  walk_at "zz"
  -- good[:at] + good[at + 1:]
  refine z_slT hg16 (fun u17 H17 e17 h17 => ?_)
  walk_at "zz"
  refine z_slT (e17 _ _ hg16) (fun u18 H18 e18 h18 => ?_)
  refine z_catT (e18 _ _ h17) h18 (by have := c2 none (some at6); have := c2 (some (at6 + 1)) none; omega) (fun u19 H19 e19 h19 => ?_)
  have hg19 := e19 _ _ (e18 _ _ (e17 _ _ hg16))
  walk_at "zz"
  refine z_new (by simp) (fun l20 H20 n20 e20 h20 => ?_)
  have hg20 := e20 _ _ hg19
  walk_at "zz"
  refine z_listT hg20 (fun l21 H21 n21 e21 h21 => ?_)
  have hg21 := e21 _ _ hg20
  walk_at "zz"
  refine z_ixT (SqT.of hg21) (v := .int x) rfl ?_
  walk_at "zz"
  refine z_ixT (SqT.of hg21) (v := .int y) rfl ?_
  walk_at "zz"
  refine z_new (by simp) (fun u22 H22 _ e22 h22 => ?_)
  walk_at "zz"
  refine z_new (by simp) (fun u23 H23 _ e23 h23 => ?_)
  have hg23 := e23 _ _ (e22 _ _ hg21)
  walk_at "zz"
  refine z_catT hg23 hg23 (by simp) (fun u24 H24 e24 h24 => ?_)
  walk_at "zz"
  refine z_new (by simp) (fun u25 H25 _ e25 h25 => ?_)
  refine z_catT (e25 _ _ (e24 _ _ hg23)) h25 (by simp) (fun u26 H26 e26 h26 => ?_)
  have hg26 := e26 _ _ (e25 _ _ (e24 _ _ hg23))
  walk_at "zz"
  refine z_new (by simp) (fun l27 H27 n27 e27 h27 => ?_)
  have s2027 : Same H20 H27 := e21.trans (e22.trans (e23.trans (e24.trans (e25.trans (e26.trans e27)))))
  refine z_cat (s2027 _ _ h20) h27 (by simp) (fun l28 H28 n28 e28 h28 => ?_)
  have hg28 := e28 _ _ (e27 _ _ hg26)
  walk_at "zz"
  refine z_ixT (SqT.of hg28) (v := .int x) rfl ?_
  walk_at "zz"
  refine z_new (by simp) (fun l29 H29 n29 e29 h29 => ?_)
  refine z_cat (e29 _ _ h28) h29 (by simp) (fun l30 H30 n30 e30 h30 => ?_)
  have s612 : Same H6 H11 := e7.trans (e8.trans (e9.trans (e10.trans e11)))
  have s1116 : Same H11 H16 := e12.trans (e13.trans (e14.trans (e15.trans e16)))
  have s1619 : Same H16 H19 := e17.trans (e18.trans e19)
  have s2730 : Same H27 H30 := e28.trans (e29.trans e30)
  have s2030 : Same H20 H30 := s2027.trans s2730
  have s1930 : Same H19 H30 := e20.trans s2030
  have s630 : Same H6 H30 := s612.trans (s1116.trans (s1619.trans s1930))
  walk_at "zz"
  have r30 : Src H30 s := d6.src.same s630
  refine ⟨s, _, rfl, by decide, by decide +kernel, r30, fun r H31 r0 r1 d31 => ?_⟩
  have h31 := d31.keep _ _ (((d6.src.same (s612.trans (s1116.trans (s1619.trans (e20.trans (s2027.trans (e28.trans e29))))))).ne n30)) h30
  have dZ : Dr s H H31 := dA.trans ((Dr.of_same d6.src s630).trans d31)
  have ho31 : NI s H31 odd := (ho6.same s630).dr d31
  have w31 : WholeV K H31 odd false := ho31.whole
  have g1 := d31.tup (s1930 _ _ (s1619 _ _ (s1116 _ _ h11)))
  have g2 := d31.tup (s1930 _ _ (s1619 _ _ h16))
  have g3 := d31.tup (s1930 _ _ h19)
  have e2230 : Same H22 H30 := e23.trans (e24.trans (e25.trans (e26.trans (e27.trans s2730))))
  have e2330 : Same H23 H30 := e24.trans (e25.trans (e26.trans (e27.trans s2730)))
  have e2430 : Same H24 H30 := e25.trans (e26.trans (e27.trans s2730))
  have e2630 : Same H26 H30 := e27.trans s2730
  have g5 := d31.tup (e2230 _ _ h22)
  have g6 := d31.tup (e2330 _ _ h23)
  have g7 := d31.tup (e2430 _ _ h24)
  have g8 := d31.tup (e2630 _ _ h26)
  have l21s : l21 ≠ s := (d6.src.same (s612.trans (s1116.trans (s1619.trans e20)))).ne n21
  have g4 := d31.keep _ _ l21s (e30 _ _ (e29 _ _ (e28 _ _ (e27 _ _ (e26 _ _ (e25 _ _ (e24 _ _ (e23 _ _ (e22 _ _ h21)))))))))
  obtain ⟨v, hv, ov⟩ : ∃ v, atI [V.ref u11, V.ref u16, V.ref u19, V.ref l21, V.ref u22, V.ref u23, V.ref u24, V.ref u26, V.non, V.int x, V.str "1/2"] r = some v ∧ Odd K H31 v := by
    have o1 : Odd K H31 (.ref u11) := by
      refine .inr ⟨u11, _, rfl, g1, .inr (.inr ?_)⟩
      rcases (show at6 = 0 ∨ at6 = 1 by omega) with rfl | rfl
      · exact ⟨odd, .int y, false, true, rfl, w31, wholeI y, rfl⟩
      · exact ⟨.int x, odd, true, false, rfl, wholeI x, w31, rfl⟩
    have o2 : Odd K H31 (.ref u16) := by
      refine .inr ⟨u16, _, rfl, g2, .inl ?_⟩
      rcases (show at6 = 0 ∨ at6 = 1 by omega) with rfl | rfl
      · exact (by decide : (3 : Nat) ≠ 2)
      · exact (by decide : (3 : Nat) ≠ 2)
    have o3 : Odd K H31 (.ref u19) := by
      refine .inr ⟨u19, _, rfl, g3, .inl ?_⟩
      rcases (show at6 = 0 ∨ at6 = 1 by omega) with rfl | rfl
      · exact (by decide : (1 : Nat) ≠ 2)
      · exact (by decide : (1 : Nat) ≠ 2)
    have o4 : Odd K H31 (.ref l21) := .inl ⟨"list", .base (.lst g4), by decide +kernel⟩
    have o5 : Odd K H31 (.ref u22) := .inr ⟨u22, _, rfl, g5, .inr (.inl ⟨_, _, rfl, by omega⟩)⟩
    have o6 : Odd K H31 (.ref u23) := .inr ⟨u23, _, rfl, g6, .inl (by simp)⟩
    have o7 : Odd K H31 (.ref u24) := .inr ⟨u24, _, rfl, g7, .inl (by simp)⟩
    have o8 : Odd K H31 (.ref u26) := .inr ⟨u26, _, rfl, g8, .inl (by simp)⟩
    have o9 : Odd K H31 .non := .inl ⟨"NoneType", .base .non, by decide +kernel⟩
    have o10 : Odd K H31 (.int x) := .inl ⟨"int", .base (.int x), by decide +kernel⟩
    have o11 : Odd K H31 (.str "1/2") := .inl ⟨"str", .base (.str _), by decide +kernel⟩
    rcases (show r = 0 ∨ r = 1 ∨ r = 2 ∨ r = 3 ∨ r = 4 ∨ r = 5 ∨ r = 6 ∨ r = 7 ∨ r = 8 ∨ r = 9 ∨ r = 10 by omega) with rfl | rfl | rfl | rfl | rfl | rfl | rfl | rfl | rfl | rfl | rfl
    · exact ⟨_, rfl, o1⟩
    · exact ⟨_, rfl, o2⟩
    · exact ⟨_, rfl, o3⟩
    · exact ⟨_, rfl, o4⟩
    · exact ⟨_, rfl, o5⟩
    · exact ⟨_, rfl, o6⟩
    · exact ⟨_, rfl, o7⟩
    · exact ⟨_, rfl, o8⟩
    · exact ⟨_, rfl, o9⟩
    · exact ⟨_, rfl, o10⟩
    · exact ⟨_, rfl, o11⟩
  exact z_ixL (SqL.of h31) hv (q v H31 dZ ov)
def spIs (K : PySem.W.Frag) (fp fq : Addr) : Sp := fun vs H Q _ => ∃ (x : V) (k d : Bool), ((vs = [.ref fp, x, .bl d] ∧ PairQ K H x k) ∨ (vs = [.ref fq, x, .bl d] ∧ PartQ K H x k)) ∧ Q (.bl (decide (k = d))) H
theorem ok__law_is {f f_is_pair f_is_part : Addr} {fd fdp fdq : FuncData} (F : FnP K "_law_is" s__law_is f fd) (m_isinstance : mg "isinstance" = none) (m_bool : mg "bool" = none) (Fp : FnOk P w K mg base CX0 3 f_is_pair fdp ["thing"] (spIsPair K)) (kp : PySem.W.keepIn K (.ref f_is_pair) = true) (bp : Binds K fdp ["thing"] [])
    (Fq : FnOk P w K mg base CX0 3 f_is_part fdq ["thing"] (spIsPart K)) (kq : PySem.W.keepIn K (.ref f_is_part) = true) (bq : Binds K fdq ["thing"] []) : FnOk P w K mg base CX0 4 f fd ["_law_asked", "_law_thing", "_law_due"] (spIs K f_is_pair f_is_part) := by
  refine F.ok sc__law_is (fun vs H Q E h => ?_) (fun cdv A outer s H vs Q E hr h => ?_)
  · obtain ⟨x, k, d, ⟨rfl, _⟩ | ⟨rfl, _⟩, _⟩ := h <;> rfl
  obtain ⟨x, k, d, ⟨rfl, hx⟩ | ⟨rfl, hx⟩, q⟩ := h
  · refine ⟨_, PSs.nox (pss_cons (ps_set (i := 3) sc__law_is.nd rfl (.inl rfl) (pe_callL (i := 0) Fp (hr.mono (by decide)) rfl (.inl rfl) kp bp .nil pass0 (pa_cons (pv 1) pa_nil)))
  (pss_one (ps_ret (pe_and (pe_callB (call_isiE K) (by rfl) m_isinstance (by decide +kernel) (pa_cons (pv 3) (pa_cons (pe_bltn (v := .ty "bool") (by rfl) m_bool (by decide +kernel) rfl) pa_nil))) (pe_one (pe_cmpR op_eq (pv 3) (pv 2) (nomark _))))))), ?_⟩
    walk_at "zz"
    refine ⟨rfl, ?_⟩
    walk_at "zz"
    refine ⟨x, k, rfl, hx, ?_⟩
    walk_at "zz"
    refine z_isi (n := "bool") (k := true) (.base (.bl _)) (by decide +kernel) ?_
    walk_at "zz"
    exact q
  · refine ⟨_, PSs.nox (pss_cons (ps_set (i := 3) sc__law_is.nd rfl (.inl rfl) (pe_callL (i := 0) Fq (hr.mono (by decide)) rfl (.inl rfl) kq bq .nil pass0 (pa_cons (pv 1) pa_nil)))
  (pss_one (ps_ret (pe_and (pe_callB (call_isiE K) (by rfl) m_isinstance (by decide +kernel) (pa_cons (pv 3) (pa_cons (pe_bltn (v := .ty "bool") (by rfl) m_bool (by decide +kernel) rfl) pa_nil))) (pe_one (pe_cmpR op_eq (pv 3) (pv 2) (nomark _))))))), ?_⟩
    walk_at "zz"
    refine ⟨rfl, ?_⟩
    walk_at "zz"
    refine ⟨x, k, rfl, hx, ?_⟩
    walk_at "zz"
    refine z_isi (n := "bool") (k := true) (.base (.bl _)) (by decide +kernel) ?_
    walk_at "zz"
    exact q
def spLaw (K : PySem.W.Frag) : Sp := fun vs H Q _ => ∃ (a : Addr) (ns : List Int), vs = [.ref a] ∧ SqL K H a (ns.map V.int) ∧ ns.length ≤ 63 ∧ ∀ H', Q (.bl true) H'
theorem cells {ns : List Int} (lo hi : Option Int) (hl : ns.length ≤ 63) : ∃ cs : List Int, cutV (ns.map V.int) lo hi = cs.map V.int ∧ cs.length ≤ 63 := by
  refine ⟨(ns.drop (HT.sIx (ns.map V.int).length 0 lo)).take (HT.sIx (ns.map V.int).length (ns.map V.int).length hi - HT.sIx (ns.map V.int).length 0 lo), ?_, ?_⟩
  · unfold cutV
    rw [List.map_take, List.map_drop]
  · rw [List.length_take, List.length_drop]
    omega
theorem cell_at {cs : List Int} {i : Nat} {v : V} (hv : (cs.map V.int)[i]? = some v) : ∃ c : Int, v = .int c := by
  rw [List.getElem?_map] at hv
  obtain ⟨c, _, e⟩ := Option.map_eq_some_iff.mp hv
  exact ⟨c, e.symm⟩
theorem pairQ {K : PySem.W.Frag} {H : Hp} {p : Addr} {a b : Int} {k : Bool} (h : H p = some (.tup [.int a, .int b])) (hk : prB a b = k) : PairQ K H (.ref p) k := .inr ⟨p, _, rfl, h, .inr (.inl ⟨a, b, rfl, hk.symm⟩)⟩
theorem partQ {K : PySem.W.Frag} {H : Hp} {p : Addr} {a b : Int} {k : Bool} (h : H p = some (.tup [.int a, .int b])) (hk : ptB a b = k) : PartQ K H (.ref p) k := .inr ⟨p, _, rfl, h, .inr (.inl ⟨a, b, rfl, hk.symm⟩)⟩
theorem ptB_is (e : Nat) (n : Int) : ptB (partF e n).1 ((partF e n).2 : Int) = true := by
  unfold ptB
  rcases partF_is e n with h | h
  · rw [h]
    rfl
  · by_cases h0 : (partF e n).2 = 0
    · rw [h0]
      rfl
    · rw [decide_eq_true h, decide_eq_true (show (0 : Int) < ((partF e n).2 : Int) by omega)]
      simp
theorem prB_more {x y m : Int} (h : Low x y) (hm : 2 ≤ m) : prB (x * m) (y * m) = false := by
  unfold prB
  rw [decide_eq_false (show ¬ Nat.gcd (x * m).natAbs (y * m).natAbs = 1 from fun z => by
    rw [Int.natAbs_mul, Int.natAbs_mul, Nat.gcd_mul_right, h.one, Nat.one_mul] at z
    omega), Bool.and_false]
theorem ok_law {f f_is_pair f_is_part : Addr} {fd : FuncData} (F : FnP K "law" s_law f fd) (m_range : mg "range" = none) (m_abs : mg "abs" = none) (g_is_pair : mg "is_pair" = some (.ref f_is_pair)) (g_is_part : mg "is_part" = some (.ref f_is_part))
    (h_pair : Has P w K mg base 2 "pair" ["num", "den"] (spPair K)) (h_part : Has P w K mg base 1 "part" ["num", "e"] spPart) (h_is_pair : Has P w K mg base 3 "is_pair" ["thing"] (spIsPair K)) (h_is_part : Has P w K mg base 3 "is_part" ["thing"] (spIsPart K))
    (h__law_cell_at : Has P w K mg base 1 "_law_cell_at" ["_law_script", "_law_k"] (spCell K)) (h__law_begin : Has P w K mg base 1 "_law_begin" ["_law_cell"] (spBegin K)) (h__law_draw : Has P w K mg base 1 "_law_draw" ["_law_source", "_law_most"] spDraw) (h__law_far : Has P w K mg base 2 "_law_far" ["_law_source"] spFar)
    (h__law_spoilt : Has P w K mg base 2 "_law_spoilt" ["_law_source", "_law_good"] (spSpoilt K)) (h__law_is : Has P w K mg base 4 "_law_is" ["_law_asked", "_law_thing", "_law_due"] (spIs K f_is_pair f_is_part)) : FnOk P w K mg base CX0 5 f fd ["_law_script"] (spLaw K) := by
  refine F.ok sc_law (fun vs H Q E h => ?_) (fun cdv A outer s H vs Q E hr h => ?_)
  · obtain ⟨a, ns, rfl, _⟩ := h; rfl
  obtain ⟨a, ns, rfl, hS, hlen, q⟩ := h
  refine ⟨_, PSs.nox (pss_cons (ps_for PassesOwn.never rfl (pi_listE K (pe_op op_cat (pe_lst (pa_cons (pe_callH h__law_cell_at (hr.mono (by decide)) (by rfl) (pa_cons (pv 0) (pa_cons pe_int pa_nil))) pa_nil)) (pe_slice (sl_listE K) (pv 0) (po_some pe_int) (po_some pe_int)))) (pg_name (i := 1) sc_law.nd rfl (.inl rfl))
    (pss_cons (ps_set (i := 2) sc_law.nd rfl (.inl rfl) (pe_callH h__law_begin (hr.mono (by decide)) (by rfl) (pa_cons (pv 1) pa_nil)))
  (pss_cons (ps_set (i := 3) sc_law.nd rfl (.inl rfl) (pe_callH h__law_far (hr.mono (by decide)) (by rfl) (pa_cons (pv 2) pa_nil)))
  (pss_cons (ps_set (i := 4) sc_law.nd rfl (.inl rfl) (pe_orTE K (pe_callB call_absE (by rfl) m_abs (by decide +kernel) (pa_cons (pe_callH h__law_far (hr.mono (by decide)) (by rfl) (pa_cons (pv 2) pa_nil)) pa_nil)) (pe_one pe_int)))
  (pss_cons (ps_set (i := 5) sc_law.nd rfl (.inl rfl) (pe_ix (ix_listE K) (pe_lst (pa_cons pe_int (pa_cons pe_int (pa_cons (pe_callH h__law_draw (hr.mono (by decide)) (by rfl) (pa_cons (pv 2) (pa_cons pe_int pa_nil))) pa_nil)))) (pe_callH h__law_draw (hr.mono (by decide)) (by rfl) (pa_cons (pv 2) (pa_cons pe_int pa_nil))) (fun _ _ => rfl)))
  (pss_cons (ps_set (i := 6) sc_law.nd rfl (.inl rfl) (pe_callH h_pair (hr.mono (by decide)) (by rfl) (pa_cons (pv 3) (pa_cons (pv 4) pa_nil))))
  (pss_cons (ps_set (i := 7) sc_law.nd rfl (.inl rfl) (pe_callH h_part (hr.mono (by decide)) (by rfl) (pa_cons (pv 3) (pa_cons (pv 5) pa_nil))))
  (pss_cons (ps_set (i := 8) sc_law.nd rfl (.inl rfl) (pe_op op_add pe_int (pe_callH h__law_draw (hr.mono (by decide)) (by rfl) (pa_cons (pv 2) (pa_cons pe_int pa_nil)))))
  (pss_cons (ps_if (PW.pt (pw_or (pt_not (pt_val (pe_callH h__law_is (hr.mono (by decide)) (by rfl) (pa_cons (pe_glob (v := .ref f_is_pair) (by rfl) g_is_pair rfl) (pa_cons (pv 6) (pa_cons pe_bl pa_nil)))))) (pw_or1 (pt_not (pt_val (pe_callH h__law_is (hr.mono (by decide)) (by rfl) (pa_cons (pe_glob (v := .ref f_is_part) (by rfl) g_is_part rfl) (pa_cons (pv 7) (pa_cons pe_bl pa_nil)))))))))
    (pss_one (ps_ret pe_bl))
    pss_nil)
  (pss_cons (ps_if (PW.pt (pw_or (pt_not (pt_val (pe_callH h__law_is (hr.mono (by decide)) (by rfl) (pa_cons (pe_glob (v := .ref f_is_pair) (by rfl) g_is_pair rfl) (pa_cons (pe_tup (pa_cons (pe_op op_mulA (pe_ix (ix_tupE K) (pv 6) pe_int (fun _ _ => rfl)) (pv 8)) (pa_cons (pe_op op_mulA (pe_ix (ix_tupE K) (pv 6) pe_int (fun _ _ => rfl)) (pv 8)) pa_nil))) (pa_cons pe_bl pa_nil)))))) (pw_or1 (pt_not (pt_val (pe_callH h__law_is (hr.mono (by decide)) (by rfl) (pa_cons (pe_glob (v := .ref f_is_pair) (by rfl) g_is_pair rfl) (pa_cons (pe_tup (pa_cons (pv 3) (pa_cons pe_int pa_nil))) (pa_cons pe_bl pa_nil)))))))))
    (pss_one (ps_ret pe_bl))
    pss_nil)
  (pss_cons (ps_if (PW.pt (pw_or (pt_not (pt_val (pe_callH h__law_is (hr.mono (by decide)) (by rfl) (pa_cons (pe_glob (v := .ref f_is_part) (by rfl) g_is_part rfl) (pa_cons (pe_tup (pa_cons (pe_op op_mulA (pe_ix (ix_tupE K) (pv 7) pe_int (fun _ _ => rfl)) pe_int) (pa_cons (pe_op op_add (pe_ix (ix_tupE K) (pv 7) pe_int (fun _ _ => rfl)) pe_int) pa_nil))) (pa_cons pe_bl pa_nil)))))) (pw_or1 (pt_not (pt_val (pe_callH h__law_is (hr.mono (by decide)) (by rfl) (pa_cons (pe_glob (v := .ref f_is_part) (by rfl) g_is_part rfl) (pa_cons (pe_tup (pa_cons (pv 3) (pa_cons pe_int pa_nil))) (pa_cons pe_bl pa_nil)))))))))
    (pss_one (ps_ret pe_bl))
    pss_nil)
  (pss_cons (ps_if (pt_not (pt_val (pe_callH h__law_is (hr.mono (by decide)) (by rfl) (pa_cons (pe_glob (v := .ref f_is_part) (by rfl) g_is_part rfl) (pa_cons (pe_callH h__law_spoilt (hr.mono (by decide)) (by rfl) (pa_cons (pv 2) (pa_cons (pv 7) pa_nil))) (pa_cons pe_bl pa_nil))))))
    (pss_one (ps_ret pe_bl))
    pss_nil)
  (pss_one (ps_if (pt_not (pt_val (pe_callH h__law_is (hr.mono (by decide)) (by rfl) (pa_cons (pe_glob (v := .ref f_is_pair) (by rfl) g_is_pair rfl) (pa_cons (pe_callH h__law_spoilt (hr.mono (by decide)) (by rfl) (pa_cons (pv 2) (pa_cons (pv 6) pa_nil))) (pa_cons pe_bl pa_nil))))))
    (pss_one (ps_ret pe_bl))
    pss_nil))))))))))))))
  (pss_cons (ps_set (i := 9) sc_law.nd rfl (.inl rfl) (pe_tup (pa_cons pe_int (pa_cons pe_int pa_nil))))
  (pss_cons (ps_for PassesOwn.never rfl (pi_range1 (by rfl) m_range (pa_cons pe_int pa_nil)) (pg_name (i := 10) sc_law.nd rfl (.inl rfl))
    (pss_one (ps_set (i := 9) sc_law.nd rfl (.inl rfl) (pe_tup (pa_cons (pv 9) (pa_cons pe_int pa_nil))))))
  (pss_cons (ps_for PassesOwn.never rfl (pi_listE K (pe_lst (pa_cons (pv 9) (pa_cons (pe_tup pa_nil) (pa_cons (pe_tup (pa_cons pe_int (pa_cons pe_int pa_nil))) (pa_cons (pe_tup (pa_cons pe_int (pa_cons (pe_un un_neg pe_int) pa_nil))) (pa_cons pe_dnewK (pa_cons pe_int (pa_cons pe_bl (pa_cons (pe_lst (pa_cons pe_int (pa_cons pe_int pa_nil))) (pa_cons (pe_tup (pa_cons (pe_tup (pa_cons pe_int (pa_cons pe_int pa_nil))) pa_nil)) pa_nil))))))))))) (pg_name (i := 11) sc_law.nd rfl (.inl rfl))
    (pss_one (ps_if (pt_not (pt_val (pe_callH h__law_is (hr.mono (by decide)) (by rfl) (pa_cons (pe_glob (v := .ref f_is_pair) (by rfl) g_is_pair rfl) (pa_cons (pv 11) (pa_cons pe_bl pa_nil))))))
    (pss_one (ps_ret pe_bl))
    pss_nil)))
  (pss_cons (ps_set (i := 11) sc_law.nd rfl (.inl rfl) (pe_lst (pa_cons (pv 9) (pa_cons (pe_tup pa_nil) (pa_cons (pe_tup (pa_cons pe_int (pa_cons pe_int pa_nil))) (pa_cons (pe_tup (pa_cons pe_int (pa_cons pe_int pa_nil))) (pa_cons (pe_tup (pa_cons pe_int (pa_cons (pe_un un_neg pe_int) pa_nil))) (pa_cons pe_dnewK (pa_cons pe_int (pa_cons pe_bl (pa_cons (pe_lst (pa_cons pe_int (pa_cons pe_int pa_nil))) pa_nil)))))))))))
  (pss_one (ps_ret (pe_and (pe_cmpR (op_eqDE K hr.units) (pe_lc (own := [("_law_one", 12)]) (g := (gName 12)) (by rfl) sc_law.nd (pi_listE K (pv 11)) (blkOk_by (own := [("_law_one", 12)]) (N := ["_law_script", "_law_cell", "_law_source", "_law_num", "_law_den", "_law_e", "_law_good", "_law_some", "_law_more", "_law_tower", "_law_k", "_law_odd", "_law_one"]) (sc := defScope s_law) (by decide +kernel)) (fun _ _ _ _ _ => (pg_name (i := 12) sc_law.nd rfl (.inl rfl))) (fun _ _ _ _ _ => (pts_one (pt_not (pt_val (pe_callH h__law_is (hr.mono (by decide)) (by rfl) (pa_cons (pe_glob (v := .ref f_is_part) (by rfl) g_is_part rfl) (pa_cons (pv 12) (pa_cons pe_bl pa_nil)))))))) (fun _ _ _ _ _ => (pv 12))) (pe_lst pa_nil) (nomark _)) (pe_and (pe_callH h_is_pair (hr.mono (by decide)) (by rfl) (pa_cons (pe_tup (pa_cons pe_int (pa_cons pe_int pa_nil))) pa_nil)) (pe_one (pe_callH h_is_part (hr.mono (by decide)) (by rfl) (pa_cons (pe_tup (pa_cons pe_int (pa_cons pe_int pa_nil))) pa_nil)))))))))))), ?_⟩
  walk_at "zz"
  refine ⟨a, ns, 0, rfl, hS, hlen, fun c0 => ?_⟩
  walk_at "zz"
  refine z_new (by simp) (fun p1 H1 n1 s1 h1 => ?_)
  walk_at "zz"
  refine z_slL (s1.seq hS) (fun p2 H2 n2 s2 h2 => ?_)
  obtain ⟨cs, hcs, hcl⟩ := cells (some 1) (some 30) hlen
  rw [hcs] at h2
  refine z_cat (s2 _ _ h1) h2 (by simp; omega) (fun p3 H3 n3 s3 h3 => ?_)
  refine ⟨p3, rfl, ⟨_, SqL.of h3⟩, for_list (xs := (c0 :: cs).map V.int) (fun i σ H' => (∃ y1 y2 y3 y4 y5 y6 y7 y8 y9 y10 y11 y12, σ = [some (.ref a), y1, y2, y3, y4, y5, y6, y7, y8, y9, y10, y11, y12]) ∧ H' p3 = some (.lst ((c0 :: cs).map V.int))) ⟨⟨_, _, _, _, _, _, _, _, _, _, _, _, rfl⟩, h3⟩ (fun i σ H' _ h => SqL.of h.2) ?_ ?_⟩
  · rintro i v σ H4 hv ⟨⟨y1, y2, y3, y4, y5, y6, y7, y8, y9, y10, y11, y12, rfl⟩, h4⟩
    obtain ⟨c, rfl⟩ := cell_at hv
    walk_at "zz"
    refine ⟨c, rfl, fun s5 H5 n5 e5 r5 => ?_⟩
    have h5 := e5 _ _ h4
    have ne5 : p3 ≠ s5 := ne_of_none h4 n5
    walk_at "zz"
    refine ⟨s5, rfl, r5, fun num H6 hnum d6 => ?_⟩
    walk_at "zz"
    refine ⟨s5, rfl, d6.src, fun m1 H7 hm1 d7 => ?_⟩
    walk_at "zz"
    refine z_orCut (fun den H8 => den ≠ 0 ∧ den.natAbs < 2 ^ 200 ∧ H7 = H8) (fun hz => ⟨hz, by rw [Int.natAbs_natCast]; exact hm1, rfl⟩) ?_ ?_
    case refine_2 =>
      intro hz Q' hQ
      walk_at "zz"
      exact hQ _ _ ⟨by decide, by decide, rfl⟩
    rintro den H8 ⟨hz1, hd1, rfl⟩
    walk_at "zz"
    refine ⟨s5, _, rfl, by decide, by decide +kernel, d7.src, fun x1 H8 x10 x11 d8 => ?_⟩
    walk_at "zz"
    refine z_new (by simp) (fun l9 H9 n9 e9 hl9 => ?_)
    walk_at "zz"
    refine ⟨s5, _, rfl, by decide, by decide +kernel, d8.src.same e9, fun x3 H10 x30 x31 d10 => ?_⟩
    have hl10 := d10.keep _ _ (d8.src.ne n9) hl9
    obtain ⟨ei, hpick⟩ : ∃ ei : Nat, atI [V.int 0, V.int 1, V.int x1] x3 = some (.int (ei : Int)) := by
      rcases (show x3 = 0 ∨ x3 = 1 ∨ x3 = 2 by omega) with rfl | rfl | rfl
      · exact ⟨0, rfl⟩
      · exact ⟨1, rfl⟩
      · exact ⟨x1.toNat, by rw [show ((x1.toNat : Nat) : Int) = x1 by omega]; rfl⟩
    refine z_ixL (SqL.of hl10) hpick ?_
    have d10' : Dr s5 H5 H10 := (d6.trans d7).trans (d8.trans ((Dr.of_same d8.src e9).trans d10))
    walk_at "zz"
    refine ⟨num, den, rfl, hz1, pw_mono hd1 (by decide), fun pg H11 _ e11 hg11 => ?_⟩
    have low := low_pair (n := num) hz1
    have bx := Nat.lt_of_le_of_lt (pn_le (n := num) hz1) hnum
    have bY := Nat.lt_of_le_of_lt (pd_le (n := num) hz1) hd1
    generalize pn num den = x at *
    generalize pd num den = y at *
    walk_at "zz"
    refine ⟨num, ei, rfl, fun pm H12 _ e12 hm12 => ?_⟩
    have bp := Nat.lt_of_le_of_lt (partF_le ei num).1 hnum
    walk_at "zz"
    refine ⟨s5, _, rfl, by decide, by decide +kernel, (d10.src.same e11).same e12, fun x4 H13 x40 x41 d13 => ?_⟩
    have hg13 := d13.tup (e12 _ _ hg11)
    have hm13 := d13.tup hm12
    walk_at "zz"
    refine ⟨.ref pg, true, true, .inl ⟨rfl, pairQ hg13 (prB_low low)⟩, ?_⟩
    walk_at "zz"
    refine ⟨.ref pm, true, true, .inr ⟨rfl, partQ hm13 (ptB_is _ _)⟩, ?_⟩
    walk_at "zz"
    refine z_ixT (SqT.of hg13) (v := .int x) rfl ?_
    have b4 : (2 + x4).natAbs < 2 ^ 64 := Nat.lt_of_le_of_lt (m := 100) (by omega) (by decide)
    walk_at "zz"
    refine z_mulA (mulR (j := 2 + x4) ⟨by omega, by omega⟩) ?_
    walk_at "zz"
    refine z_ixT (SqT.of hg13) (v := .int y) rfl ?_
    walk_at "zz"
    refine z_mulA (mulR (j := 2 + x4) ⟨by omega, by omega⟩) ?_
    walk_at "zz"
    refine z_new (by simp) (fun u14 H14 _ e14 h14 => ?_)
    walk_at "zz"
    refine ⟨.ref u14, false, false, .inl ⟨rfl, pairQ h14 (prB_more low (by omega))⟩, ?_⟩
    walk_at "zz"
    refine z_new (by simp) (fun u15 H15 _ e15 h15 => ?_)
    walk_at "zz"
    refine ⟨.ref u15, false, false, .inl ⟨rfl, pairQ h15 (by unfold prB; rw [decide_eq_false (by decide)]; rfl)⟩, ?_⟩
    have hm15 := e15 _ _ (e14 _ _ hm13)
    walk_at "zz"
    refine z_ixT (SqT.of hm15) (v := .int (partF ei num).1) rfl ?_
    walk_at "zz"
    refine z_mulA (mulR (by decide)) ?_
    walk_at "zz"
    refine z_ixT (SqT.of hm15) (v := .int ((partF ei num).2 : Int)) rfl ?_
    walk_at "zz"
    refine z_new (by simp) (fun u16 H16 _ e16 h16 => ?_)
    walk_at "zz"
    refine ⟨.ref u16, false, false, .inr ⟨rfl, partQ h16 ?_⟩, ?_⟩
    · unfold ptB
      rw [decide_eq_false (show ¬ ((partF ei num).2 : Int) + 1 = 0 by omega), decide_eq_false (show ¬ ((partF ei num).1 * 2) % 2 = 1 by omega), Bool.and_false]
      rfl
    walk_at "zz"
    refine z_new (by simp) (fun u17 H17 _ e17 h17 => ?_)
    walk_at "zz"
    refine ⟨.ref u17, true, true, .inr ⟨rfl, partQ h17 (by unfold ptB; rw [decide_eq_true rfl]; rfl)⟩, ?_⟩
    have s1317 : Same H13 H17 := e14.trans (e15.trans (e16.trans e17))
    walk_at "zz"
    refine ⟨s5, pm, _, _, rfl, d13.src.same s1317, s1317 _ _ hm13, pw_mono bp (by decide), fun v18 H18 d18 o18 => ?_⟩
    walk_at "zz"
    refine ⟨v18, false, false, .inr ⟨rfl, o18.part⟩, ?_⟩
    walk_at "zz"
    refine ⟨s5, pg, _, _, rfl, d18.src, d18.tup (s1317 _ _ hg13), pw_mono bx (by decide), fun v19 H19 d19 o19 => ?_⟩
    walk_at "zz"
    refine ⟨v19, false, false, .inl ⟨rfl, o19.pair⟩, ?_⟩
    walk_at "zz"
    have dd : Dr s5 H5 H19 := d10'.trans ((Dr.of_same d10.src (e11.trans e12)).trans (d13.trans ((Dr.of_same d13.src s1317).trans (d18.trans d19))))
    exact ⟨⟨_, _, _, _, _, _, _, _, _, _, _, _, rfl⟩, dd.keep _ _ ne5 h5⟩
  · rintro σ H4 ⟨⟨y1, y2, y3, y4, y5, y6, y7, y8, y9, y10, y11, y12, rfl⟩, h4⟩
    walk_at "zz"
    refine z_new (by simp) (fun t5 H5 n5 e5 h5 => ?_)
    walk_at "zz"
    refine ⟨_, rfl, by decide, by decide, for_range (lo := 0) (n := 2000) (fun i σ H' => ∃ (z10 : Option V) (t : Addr) (v : V), σ = [some (.ref a), y1, y2, y3, y4, y5, y6, y7, y8, some (.ref t), z10, y11, y12] ∧ H' t = some (.tup [v, .int 1]) ∧ (i ≠ 0 → ∃ t' xs, v = .ref t' ∧ H' t' = some (.tup xs))) ⟨_, t5, _, rfl, h5, fun z => absurd rfl z⟩ ?_ ?_⟩
    · rintro i σ H6 hi ⟨z10, t, v, rfl, h6, _⟩
      walk_at "zz"
      refine z_new (by simp) (fun t7 H7 n7 e7 h7 => ?_)
      exact ⟨_, t7, .ref t, rfl, h7, fun _ => ⟨t, _, rfl, e7 _ _ h6⟩⟩
    · rintro σ H6 ⟨z10, t, v, rfl, h6, htow⟩
      obtain ⟨t', xs', rfl, h6'⟩ := htow (by decide)
      have tower : ∀ {H' : Hp}, Same H6 H' → Odd K H' (.ref t) := fun {H'} e => .inr ⟨t, _, rfl, e _ _ h6, .inr (.inr ⟨_, _, false, true, rfl, ⟨"tuple", false, false, .base (.tup (e _ _ h6')), by decide +kernel, by decide +kernel, rfl⟩, wholeI 1, rfl⟩)⟩
      walk_at "zz"
      refine z_new (by simp) (fun a1 I1 _ f1 k1 => ?_)
      walk_at "zz"
      refine z_new (by simp) (fun a2 I2 _ f2 k2 => ?_)
      walk_at "zz"
      refine z_new (by simp) (fun a3 I3 _ f3 k3 => ?_)
      walk_at "zz"
      refine z_dnew (fun a4 I4 _ f4 k4 => ?_)
      walk_at "zz"
      refine z_new (by simp) (fun a5 I5 _ f5 k5 => ?_)
      walk_at "zz"
      refine z_new (by simp) (fun a6 I6 _ f6 k6 => ?_)
      walk_at "zz"
      refine z_new (by simp) (fun a7 I7 _ f7 k7 => ?_)
      walk_at "zz"
      refine z_new (by simp) (fun a8 I8 _ f8 k8 => ?_)
      have g78 := f7.trans f8
      have g58 := f6.trans g78
      have g48 := f5.trans g58
      have g38 := f4.trans g48
      have g28 := f3.trans g38
      have g18 := f2.trans g28
      have g08 := f1.trans g18
      refine ⟨a8, rfl, ⟨_, SqL.of k8⟩, for_list (xs := [V.ref t, V.ref a1, V.ref a2, V.ref a3, V.ref a4, V.int 5, V.bl true, V.ref a5, V.ref a7]) (fun i σ H' => (∃ z10 z11 z12, σ = [some (.ref a), y1, y2, y3, y4, y5, y6, y7, y8, some (.ref t), z10, z11, z12]) ∧ Same I8 H') ⟨⟨_, _, _, rfl⟩, Same.refl _⟩ (fun i σ H' _ h => SqL.of (h.2 _ _ k8)) ?_ ?_⟩
      · rintro i v σ H7 hv ⟨⟨z10, z11, z12, rfl⟩, e7⟩
        have hq : PairQ K H7 v false := by
          have e78 : ∀ {b : Addr} {o : HO}, I8 b = some o → H7 b = some o := fun h => e7 _ _ h
          rcases i with _ | _ | _ | _ | _ | _ | _ | _ | _ | i
          · cases hv
            exact (tower (g08.trans e7)).pair
          · cases hv
            exact Odd.pair (.inr ⟨a1, _, rfl, e78 (g18 _ _ k1), .inl (by simp)⟩)
          · cases hv
            exact pairQ (e78 (g28 _ _ k2)) (by decide)
          · cases hv
            exact pairQ (e78 (g38 _ _ k3)) (by decide)
          · cases hv
            exact .inl ⟨rfl, "dict", .base (.dK (e78 (g48 _ _ k4))), by decide +kernel⟩
          · cases hv
            exact .inl ⟨rfl, "int", .base (.int 5), by decide +kernel⟩
          · cases hv
            exact .inl ⟨rfl, "bool", .base (.bl true), by decide +kernel⟩
          · cases hv
            exact .inl ⟨rfl, "list", .base (.lst (e78 (g58 _ _ k5))), by decide +kernel⟩
          · cases hv
            exact Odd.pair (.inr ⟨a7, _, rfl, e78 (f8 _ _ k7), .inl (by simp)⟩)
          · cases hv
        walk_at "zz"
        refine ⟨v, false, false, .inl ⟨rfl, hq⟩, ?_⟩
        walk_at "zz"
        exact ⟨⟨_, _, _, rfl⟩, e7⟩
      · rintro σ H7 ⟨⟨z10, z11, z12, rfl⟩, e7⟩
        walk_at "zz"
        refine z_new (by simp) (fun b1 J1 _ f1' k1' => ?_)
        walk_at "zz"
        refine z_new (by simp) (fun b2 J2 _ f2' k2' => ?_)
        walk_at "zz"
        refine z_new (by simp) (fun b3 J3 _ f3' k3' => ?_)
        walk_at "zz"
        refine z_new (by simp) (fun b4 J4 _ f4' k4' => ?_)
        walk_at "zz"
        refine z_dnew (fun b5 J5 _ f5' k5' => ?_)
        walk_at "zz"
        refine z_new (by simp) (fun b6 J6 _ f6' k6' => ?_)
        walk_at "zz"
        refine z_new (by simp) (fun b7 J7 _ f7' k7' => ?_)
        have m67 := f7'
        have m57 := f6'.trans m67
        have m47 := f5'.trans m57
        have m37 := f4'.trans m47
        have m27 := f3'.trans m37
        have m17 := f2'.trans m27
        have m07 := g08.trans (e7.trans (f1'.trans m17))
        walk_at "zy"
        refine ⟨_, rfl, b7, rfl, ⟨_, SqL.of k7'⟩, fun Dl nD => lc_list (xs := [V.ref t, V.ref b1, V.ref b2, V.ref b3, V.ref b4, V.ref b5, V.int 5, V.bl true, V.ref b6]) (fun i H' => Same J7 H' ∧ H' Dl = some (.lst [])) ?_ ?_ ?_ ?_⟩
        · exact ⟨fun b u e => by rw [upd_ne (ne_of_none e nD)]; exact e, upd_same⟩
        · intro i H' hi h
          exact SqL.of (h.1 _ _ k7')
        · rintro i v H8 hv ⟨e8, hD8⟩
          have hq : PartQ K H8 v false := by
            have e78 : ∀ {b : Addr} {o : HO}, J7 b = some o → H8 b = some o := fun h => e8 _ _ h
            rcases i with _ | _ | _ | _ | _ | _ | _ | _ | _ | i
            · cases hv
              exact (tower (m07.trans e8)).part
            · cases hv
              exact Odd.part (.inr ⟨b1, _, rfl, e78 (m17 _ _ k1'), .inl (by simp)⟩)
            · cases hv
              exact partQ (e78 (m27 _ _ k2')) (by decide)
            · cases hv
              exact partQ (e78 (m37 _ _ k3')) (by decide)
            · cases hv
              exact partQ (e78 (m47 _ _ k4')) (by decide)
            · cases hv
              exact .inl ⟨rfl, "dict", .base (.dK (e78 (m57 _ _ k5'))), by decide +kernel⟩
            · cases hv
              exact .inl ⟨rfl, "int", .base (.int 5), by decide +kernel⟩
            · cases hv
              exact .inl ⟨rfl, "bool", .base (.bl true), by decide +kernel⟩
            · cases hv
              exact .inl ⟨rfl, "list", .base (.lst (e78 (m67 _ _ k6'))), by decide +kernel⟩
            · cases hv
          refine ⟨rfl, ?_⟩
          walk_at "zz"
          refine ⟨v, false, false, .inr ⟨rfl, hq⟩, ?_⟩
          walk_at "zz"
          exact ⟨e8, hD8⟩
        · rintro H8 ⟨e8, hD8⟩
          walk_at "zz"
          refine z_new (by simp) (fun b9 J9 _ f9' k9' => ?_)
          refine z_eqD (.lst (SqL.of (f9' _ _ hD8)) .nil) (.lst (SqL.of k9') .nil) (k := true) rfl rfl rfl ?_
          walk_at "zz"
          refine z_new (by simp) (fun b10 J10 _ f10 k10 => ?_)
          walk_at "zz"
          refine ⟨.ref b10, true, rfl, pairQ k10 (by decide), ?_⟩
          walk_at "zz"
          refine z_new (by simp) (fun b11 J11 _ f11 k11 => ?_)
          walk_at "zz"
          exact ⟨.ref b11, true, rfl, partQ k11 (by decide), q _⟩
end
/-! ### the head: facts by names, the run -/
def d_is_whole_number : He.DefD := ⟨("is_whole_number", none), "is_whole_number", "is_whole_number", defArgs (topS 1), defBody (topS 1), defScope (topS 1), [], []⟩
def d_is_two_whole_numbers : He.DefD := ⟨("is_two_whole_numbers", none), "is_two_whole_numbers", "is_two_whole_numbers", defArgs (topS 2), defBody (topS 2), defScope (topS 2), [], []⟩
def d_greatest_divisor : He.DefD := ⟨("greatest_divisor", none), "greatest_divisor", "greatest_divisor", defArgs (topS 3), defBody (topS 3), defScope (topS 3), [], []⟩
def d_pair : He.DefD := ⟨("pair", none), "pair", "pair", defArgs (topS 4), defBody (topS 4), defScope (topS 4), [], []⟩
def d_is_pair : He.DefD := ⟨("is_pair", none), "is_pair", "is_pair", defArgs (topS 5), defBody (topS 5), defScope (topS 5), [], []⟩
def d_part : He.DefD := ⟨("part", none), "part", "part", defArgs (topS 6), defBody (topS 6), defScope (topS 6), [], []⟩
def d_is_part : He.DefD := ⟨("is_part", none), "is_part", "is_part", defArgs (topS 7), defBody (topS 7), defScope (topS 7), [], []⟩
def d__law_cell_at : He.DefD := ⟨("_law_cell_at", none), "_law_cell_at", "_law_cell_at", defArgs (topS 9), defBody (topS 9), defScope (topS 9), [], []⟩
def d__law_begin : He.DefD := ⟨("_law_begin", none), "_law_begin", "_law_begin", defArgs (topS 10), defBody (topS 10), defScope (topS 10), [], []⟩
def d__law_draw : He.DefD := ⟨("_law_draw", none), "_law_draw", "_law_draw", defArgs (topS 11), defBody (topS 11), defScope (topS 11), [], []⟩
def d__law_far : He.DefD := ⟨("_law_far", none), "_law_far", "_law_far", defArgs (topS 12), defBody (topS 12), defScope (topS 12), [], []⟩
def d__law_spoilt : He.DefD := ⟨("_law_spoilt", none), "_law_spoilt", "_law_spoilt", defArgs (topS 13), defBody (topS 13), defScope (topS 13), [], []⟩
def d__law_is : He.DefD := ⟨("_law_is", none), "_law_is", "_law_is", defArgs (topS 14), defBody (topS 14), defScope (topS 14), [], []⟩
def d_law : He.DefD := ⟨("law", none), "law", "law", defArgs (topS 15), defBody (topS 15), defScope (topS 15), [], []⟩
def fn : List He.DefD := [d_greatest_divisor, d_pair, d_is_whole_number, d_is_two_whole_numbers, d_is_pair, d_part, d_is_part, d__law_cell_at, d__law_begin, d__law_draw, d__law_far, d__law_spoilt, d__law_is, d_law]
def fa : List He.Fa := [.glo "greatest_divisor", .glo "pair", .glo "is_whole_number", .glo "is_two_whole_numbers", .glo "is_pair", .glo "part", .glo "is_part", .glo "_law_cell_at", .glo "_law_begin", .glo "_law_draw", .glo "_law_far", .glo "_law_spoilt", .glo "_law_is", .glo "law", .free "abs", .free "isinstance", .free "int", .free "bool", .free "tuple", .free "len", .free "range", .free "min", .free "str", .free "list"]
abbrev R : PySem.W.OpenRow := PySem.W.OpenLaw.row PySem.Challenge.rw_sumtold_k02_what_is_a_pair_or_part
abbrev hk : PySem.W.Hook := He.hookD 16 fa fn
def ob (s : PySem.W.SharedT) : He.AlD := He.obsDG 16 fa fn (HandSHeadRun.getT s)
theorem ob_eq (s : PySem.W.SharedT) : ob s = hk.obs s.abs := He.obsDG_eq (HandSHeadRun.getT_eq s)
theorem run (w : World) : HandSHeadRun.RunEq R (PySem.W.view R.prog [15]) hk ob 1500 ["is_whole_number", "is_two_whole_numbers", "greatest_divisor", "pair", "is_pair", "part", "is_part", "_law_cell_at", "_law_begin", "_law_draw", "_law_far", "_law_spoilt", "_law_is"] w := by
  intro os
  kernel_rfl
theorem facts {P : Program} {w : World} {K : PySem.W.Frag} {h : Heap} {mg : Str → Option Value} {f : Addr} (X : K.In h) (G : h.Ns mainGlobals mg) (hfa : mg ("law" : Str) = some (.ref f)) (c : He.SaysD fa fn K) :
    ∃ fd : FuncData, (∀ (s : Shared) (v : Value), BindsTo s fd ⟨[v], []⟩ [("_law_script", v)]) ∧ ∀ base : Heap, K.In base → base.Ns mainGlobals mg → FnOk P w K mg base CX0 5 f fd ["_law_script"] (spLaw K) := by
  obtain ⟨fd_greatest_divisor, F_greatest_divisor⟩ := c.def_ 0 (d := d_greatest_divisor) rfl
  obtain ⟨fd_pair, F_pair⟩ := c.def_ 1 (d := d_pair) rfl
  obtain ⟨fd_is_whole_number, F_is_whole_number⟩ := c.def_ 2 (d := d_is_whole_number) rfl
  obtain ⟨fd_is_two_whole_numbers, F_is_two_whole_numbers⟩ := c.def_ 3 (d := d_is_two_whole_numbers) rfl
  obtain ⟨fd_is_pair, F_is_pair⟩ := c.def_ 4 (d := d_is_pair) rfl
  obtain ⟨fd_part, F_part⟩ := c.def_ 5 (d := d_part) rfl
  obtain ⟨fd_is_part, F_is_part⟩ := c.def_ 6 (d := d_is_part) rfl
  obtain ⟨fd__law_cell_at, F__law_cell_at⟩ := c.def_ 7 (d := d__law_cell_at) rfl
  obtain ⟨fd__law_begin, F__law_begin⟩ := c.def_ 8 (d := d__law_begin) rfl
  obtain ⟨fd__law_draw, F__law_draw⟩ := c.def_ 9 (d := d__law_draw) rfl
  obtain ⟨fd__law_far, F__law_far⟩ := c.def_ 10 (d := d__law_far) rfl
  obtain ⟨fd__law_spoilt, F__law_spoilt⟩ := c.def_ 11 (d := d__law_spoilt) rfl
  obtain ⟨fd__law_is, F__law_is⟩ := c.def_ 12 (d := d__law_is) rfl
  obtain ⟨fd_law, F_law⟩ := c.def_ 13 (d := d_law) rfl
  have e := hfa.symm.trans (He.glo_ok X G (c.fact 13 (f := .glo "law") rfl))
  cases e
  have g_greatest_divisor := He.glo_ok X G (c.fact 0 (f := .glo "greatest_divisor") rfl)
  have g_pair := He.glo_ok X G (c.fact 1 (f := .glo "pair") rfl)
  have g_is_whole_number := He.glo_ok X G (c.fact 2 (f := .glo "is_whole_number") rfl)
  have g_is_two_whole_numbers := He.glo_ok X G (c.fact 3 (f := .glo "is_two_whole_numbers") rfl)
  have g_is_pair := He.glo_ok X G (c.fact 4 (f := .glo "is_pair") rfl)
  have g_part := He.glo_ok X G (c.fact 5 (f := .glo "part") rfl)
  have g_is_part := He.glo_ok X G (c.fact 6 (f := .glo "is_part") rfl)
  have g__law_cell_at := He.glo_ok X G (c.fact 7 (f := .glo "_law_cell_at") rfl)
  have g__law_begin := He.glo_ok X G (c.fact 8 (f := .glo "_law_begin") rfl)
  have g__law_draw := He.glo_ok X G (c.fact 9 (f := .glo "_law_draw") rfl)
  have g__law_far := He.glo_ok X G (c.fact 10 (f := .glo "_law_far") rfl)
  have g__law_spoilt := He.glo_ok X G (c.fact 11 (f := .glo "_law_spoilt") rfl)
  have g__law_is := He.glo_ok X G (c.fact 12 (f := .glo "_law_is") rfl)
  have m_abs := He.free_ok X G (c.fact 14 (f := .free "abs") rfl)
  have m_isinstance := He.free_ok X G (c.fact 15 (f := .free "isinstance") rfl)
  have m_int := He.free_ok X G (c.fact 16 (f := .free "int") rfl)
  have m_bool := He.free_ok X G (c.fact 17 (f := .free "bool") rfl)
  have m_tuple := He.free_ok X G (c.fact 18 (f := .free "tuple") rfl)
  have m_len := He.free_ok X G (c.fact 19 (f := .free "len") rfl)
  have m_range := He.free_ok X G (c.fact 20 (f := .free "range") rfl)
  have m_min := He.free_ok X G (c.fact 21 (f := .free "min") rfl)
  have m_str := He.free_ok X G (c.fact 22 (f := .free "str") rfl)
  have m_list := He.free_ok X G (c.fact 23 (f := .free "list") rfl)
  have b_greatest_divisor : Binds K fd_greatest_divisor ["one", "other"] [] := F_greatest_divisor.bindsN fun _ _ _ _ _ _ us hl => match us, hl with | [_, _], _ => rfl
  have b_pair : Binds K fd_pair ["num", "den"] [] := F_pair.bindsN fun _ _ _ _ _ _ us hl => match us, hl with | [_, _], _ => rfl
  have b_is_whole_number : Binds K fd_is_whole_number ["thing"] [] := F_is_whole_number.bindsN fun _ _ _ _ _ _ us hl => match us, hl with | [_], _ => rfl
  have b_is_two_whole_numbers : Binds K fd_is_two_whole_numbers ["thing"] [] := F_is_two_whole_numbers.bindsN fun _ _ _ _ _ _ us hl => match us, hl with | [_], _ => rfl
  have b_is_pair : Binds K fd_is_pair ["thing"] [] := F_is_pair.bindsN fun _ _ _ _ _ _ us hl => match us, hl with | [_], _ => rfl
  have b_part : Binds K fd_part ["num", "e"] [] := F_part.bindsN fun _ _ _ _ _ _ us hl => match us, hl with | [_, _], _ => rfl
  have b_is_part : Binds K fd_is_part ["thing"] [] := F_is_part.bindsN fun _ _ _ _ _ _ us hl => match us, hl with | [_], _ => rfl
  have b__law_cell_at : Binds K fd__law_cell_at ["_law_script", "_law_k"] [] := F__law_cell_at.bindsN fun _ _ _ _ _ _ us hl => match us, hl with | [_, _], _ => rfl
  have b__law_begin : Binds K fd__law_begin ["_law_cell"] [] := F__law_begin.bindsN fun _ _ _ _ _ _ us hl => match us, hl with | [_], _ => rfl
  have b__law_draw : Binds K fd__law_draw ["_law_source", "_law_most"] [] := F__law_draw.bindsN fun _ _ _ _ _ _ us hl => match us, hl with | [_, _], _ => rfl
  have b__law_far : Binds K fd__law_far ["_law_source"] [] := F__law_far.bindsN fun _ _ _ _ _ _ us hl => match us, hl with | [_], _ => rfl
  have b__law_spoilt : Binds K fd__law_spoilt ["_law_source", "_law_good"] [] := F__law_spoilt.bindsN fun _ _ _ _ _ _ us hl => match us, hl with | [_, _], _ => rfl
  have b__law_is : Binds K fd__law_is ["_law_asked", "_law_thing", "_law_due"] [] := F__law_is.bindsN fun _ _ _ _ _ _ us hl => match us, hl with | [_, _, _], _ => rfl
  have b_law := FunD.bindsA (ps := ["_law_script"]) F_law fun _ _ _ _ _ _ us hl => match us, hl with | [_], _ => rfl
  refine ⟨fd_law, fun s v => b_law s [v] rfl, fun base _ _ => ?_⟩
  have h_greatest_divisor : Has P w K mg base _ "greatest_divisor" _ _ := ⟨_, fd_greatest_divisor, ok_greatest_divisor (P := P) (w := w) (base := base) F_greatest_divisor m_abs, F_greatest_divisor.kp, b_greatest_divisor, g_greatest_divisor⟩
  have h_pair : Has P w K mg base _ "pair" _ _ := ⟨_, fd_pair, ok_pair (P := P) (w := w) (base := base) F_pair h_greatest_divisor, F_pair.kp, b_pair, g_pair⟩
  have h_is_whole_number : Has P w K mg base _ "is_whole_number" _ _ := ⟨_, fd_is_whole_number, ok_is_whole_number (P := P) (w := w) (base := base) F_is_whole_number m_isinstance m_int m_bool, F_is_whole_number.kp, b_is_whole_number, g_is_whole_number⟩
  have h_is_two_whole_numbers : Has P w K mg base _ "is_two_whole_numbers" _ _ := ⟨_, fd_is_two_whole_numbers, ok_is_two_whole_numbers (P := P) (w := w) (base := base) F_is_two_whole_numbers m_isinstance m_tuple m_len h_is_whole_number, F_is_two_whole_numbers.kp, b_is_two_whole_numbers, g_is_two_whole_numbers⟩
  have h_is_pair : Has P w K mg base _ "is_pair" _ _ := ⟨_, fd_is_pair, ok_is_pair (P := P) (w := w) (base := base) F_is_pair h_is_two_whole_numbers h_greatest_divisor, F_is_pair.kp, b_is_pair, g_is_pair⟩
  have h_part : Has P w K mg base _ "part" _ _ := ⟨_, fd_part, ok_part (P := P) (w := w) (base := base) F_part m_min, F_part.kp, b_part, g_part⟩
  have h_is_part : Has P w K mg base _ "is_part" _ _ := ⟨_, fd_is_part, ok_is_part (P := P) (w := w) (base := base) F_is_part h_is_two_whole_numbers, F_is_part.kp, b_is_part, g_is_part⟩
  have h__law_cell_at : Has P w K mg base _ "_law_cell_at" _ _ := ⟨_, fd__law_cell_at, ok__law_cell_at (P := P) (w := w) (base := base) F__law_cell_at m_len, F__law_cell_at.kp, b__law_cell_at, g__law_cell_at⟩
  have h__law_begin : Has P w K mg base _ "_law_begin" _ _ := ⟨_, fd__law_begin, ok__law_begin (P := P) (w := w) (base := base) F__law_begin m_int, F__law_begin.kp, b__law_begin, g__law_begin⟩
  have h__law_draw : Has P w K mg base _ "_law_draw" _ _ := ⟨_, fd__law_draw, ok__law_draw (P := P) (w := w) (base := base) F__law_draw , F__law_draw.kp, b__law_draw, g__law_draw⟩
  have h__law_far : Has P w K mg base _ "_law_far" _ _ := ⟨_, fd__law_far, ok__law_far (P := P) (w := w) (base := base) F__law_far m_range h__law_draw, F__law_far.kp, b__law_far, g__law_far⟩
  have h__law_spoilt : Has P w K mg base _ "_law_spoilt" _ _ := ⟨_, fd__law_spoilt, ok__law_spoilt (P := P) (w := w) (base := base) F__law_spoilt m_str m_list m_abs h__law_draw, F__law_spoilt.kp, b__law_spoilt, g__law_spoilt⟩
  have h__law_is : Has P w K mg base _ "_law_is" _ _ := ⟨_, fd__law_is, ok__law_is (P := P) (w := w) (base := base) F__law_is m_isinstance m_bool (ok_is_pair (P := P) (w := w) (base := base) F_is_pair h_is_two_whole_numbers h_greatest_divisor) F_is_pair.kp b_is_pair (ok_is_part (P := P) (w := w) (base := base) F_is_part h_is_two_whole_numbers) F_is_part.kp b_is_part, F__law_is.kp, b__law_is, g__law_is⟩
  exact ok_law (P := P) (w := w) (base := base) F_law m_range m_abs g_is_pair g_is_part h_pair h_part h_is_pair h_is_part h__law_cell_at h__law_begin h__law_draw h__law_far h__law_spoilt h__law_is
end Zl
open PySem PySem.W PySem.Calls PyProof.Rows
theorem PySem.Challenge.cw_sumtold_k02_what_is_a_pair_or_part_holds : PySem.Challenge.rw_sumtold_k02_what_is_a_pair_or_part.Holds := by
  w_on; o_law
  refine HandSHeadRun.head_any (r := OpenLaw.row PySem.Challenge.rw_sumtold_k02_what_is_a_pair_or_part) (q := view (OpenLaw.row PySem.Challenge.rw_sumtold_k02_what_is_a_pair_or_part).prog [15]) (H := Zl.hk) (ob := Zl.ob) (M := 1500) (loose := ["is_whole_number", "is_two_whole_numbers", "greatest_divisor", "pair", "is_pair", "part", "is_part", "_law_cell_at", "_law_begin", "_law_draw", "_law_far", "_law_spoilt", "_law_is"]) (d := HandSHeadRun.topDef (OpenLaw.row PySem.Challenge.rw_sumtold_k02_what_is_a_pair_or_part).prog 15) (kwd := []) Zl.ob_eq
    (by kernel_rfl) (fun s => by kernel_rfl) Zl.run (by kernel_rfl) (by kernel_rfl) (by kernel_rfl) (by rfl) (by first | assumption | decide +kernel) (by decide +kernel) ⟨rfl, rfl, rfl, rfl, rfl, by decide +kernel⟩ ?hw ?hc
  case hw => w_witness2
  case hc =>
    refine L2.walk_ofE (l := PySem.Challenge.rw_sumtold_k02_what_is_a_pair_or_part) (n := 63) (k := 5) (x := "_law_script") (CX := L2.CX0) rfl (by decide) (by kernel_rfl) ⟨rfl, by decide, by decide⟩ ?F (fun _ _ _ _ z => z)
    intro w mg fa h Y G hmg0
    obtain ⟨K, KX, c⟩ := Y
    have hmg : mg ("law" : PySem.Str) = some (.ref fa) := by
      have e : (HandSHeadRun.topDef (OpenLaw.row PySem.Challenge.rw_sumtold_k02_what_is_a_pair_or_part).prog 15).name = ("law" : PySem.Str) := by kernel_rfl
      rw [← e]
      exact hmg0
    obtain ⟨fd, hb, hF⟩ := Zl.facts (P := (PySem.Challenge.rw_sumtold_k02_what_is_a_pair_or_part).prog) (w := w) KX G hmg c
    exact ⟨K, fd, Zl.spLaw K, KX, hb, fun H a ns hl _ hS => ⟨a, ns, rfl, hS, hl, fun _ => rfl⟩, hF⟩
