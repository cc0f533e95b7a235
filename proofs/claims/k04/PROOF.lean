import PyProof.Rows.All
import Wide.All
import OpenK.AllK
import Wide.FinOn
import KE.KStateDown
import Lean
import HandS.ForMost
import HandS.Flow
import HandS.Wide
import HandS.WideBits
import HandS.IsInst
import HandS.Style
import HandS.Defaults
import HandS.Head0
import HandS.Head1
import HandS.Head2
import HandS.HeadEnd
import HandS.HeadHook1
import HandS.HeadHook2
import PySem.Challenge.RW_sumtold_k04_whole_sums_of_pairs
set_option Elab.async false
set_option linter.all false
set_option maxRecDepth 100000
set_option maxHeartbeats 4000000
set_option Elab.async false
set_option linter.all false
set_option maxRecDepth 100000
set_option maxHeartbeats 2000000
namespace Zk
open PySem PySem.Spec PyProof.Rows L2
/-! ## a def by its promise -/
abbrev FnP (K : PySem.W.Frag) (x : Str) (st : Stmt) (f : Addr) (fd : FuncData) : Prop := FunD K x x (defArgs st) (defBody st) (defScope st) [] [] f fd
def Has (P : Program) (w : World) (K : PySem.W.Frag) (mg : Str → Option Value) (base : Heap) (k : Nat) (x : Str) (ps : List Str) (sp : Sp) : Prop :=
  ∃ f fd, FnOk P w K mg base CX0 k f fd ps sp ∧ PySem.W.keepIn K (.ref f) = true ∧ Binds K fd ps [] ∧ mg x = some (.ref f)
theorem pe_callH {X : Cx} {k : Nat} {x : Str} {ps : List Str} {sp : Sp} {e : Expr} {es : List Expr} {t : TA} {p pos : Pos} (h : Has X.prog X.w X.K X.mg X.base k x ps sp) (hr : Room k X.A) (hg : Gl X x) (ha : PA X (e :: es) t)
    (hdb : (x == ("__debug__" : Str)) = false := by decide) (he : starEach (e :: es) X.env = (false, eval e X.env) :: starEach es X.env := by rfl) (hpl : (backTo pos (starEach es X.env)).any (·.1) = false := by rfl) :
    PE X (.Call (.Name x p) (e :: es) [] pos) (tCall sp [] E0 t) := by
  obtain ⟨f, fd, F, hk, hb, hm⟩ := h
  exact pe_call F hr hg hm hk hb .nil pass0 ha hdb he hpl
/-! ## operators for numbers of some size -/
def CMulA (i j : Int) : Prop := CMul i j ∨ CMulW i j
def CDivA (_ j : Int) : Prop := j ≠ 0 ∧ j.natAbs.log2 < 9000
section
variable {X : Cx}
theorem op_mulA : OpR X (binaryOp .Mult) (rI CMulA fun i j => .int (i * j)) := opI fun _ _ _ _ _ _ _ hc q => mul_int q (hc.elim (fun h => h.ok) (fun h => h.ok))
theorem op_fdivA : OpR X (binaryOp .FloorDiv) (rI CDivA fun i j => .int (i.fdiv j)) := opI fun _ _ _ _ _ _ _ hc q => floordiv_int hc.1 q (.inl (PyProof.noPylong_of_log2 hc.2))
theorem op_shlA : OpR X (binaryOp .LShift) (rI CShl fun i j => .int (i * 2 ^ j.toNat)) := op_shlW
theorem op_shrA : OpR X (binaryOp .RShift) (rI (fun _ j => 0 ≤ j) fun i j => .int (i / 2 ^ j.toNat)) := op_shr
end
theorem divA {i j : Int} {n : Nat} (h0 : j ≠ 0) (h : j.natAbs < 2 ^ n) (hn : 0 < n) (h9 : n ≤ 9000) : CDivA i j := ⟨h0, Nat.lt_of_lt_of_le (PySem.Flt.log2_lt_of hn h) h9⟩
theorem mulA {i j : Int} {a b : Nat} (ha : i.natAbs < 2 ^ a) (hb : j.natAbs < 2 ^ b) (h0 : 0 < a) (h1 : 0 < b) (h : a + b ≤ 1000000) : CMulA i j := .inr (wide_mul ha hb h0 h1 h)
theorem mulL {i j : Int} (h : -(2 ^ 64) < i ∧ i < 2 ^ 64) : CMulA i j := .inl (.inl h)
theorem mulR {i j : Int} (h : -(2 ^ 64) < j ∧ j < 2 ^ 64) : CMulA i j := .inl (.inr h)
/-! ## rules with the written part named -/
def rLenK (K : PySem.W.Frag) : List V → Hp → VK → Prop := fun xs H Q => ∃ x n, xs = [x] ∧ LenV K x H n ∧ Q (.int n) H
def rListK (K : PySem.W.Frag) : List V → Hp → VK → Prop := fun xs H Q => ∃ p ys, xs = [.ref p] ∧ (SqL K H p ys ∨ SqT K H p ys) ∧ ∀ l, H l = none → Q (.ref l) (upd H l (.lst ys))
def rTupleK (K : PySem.W.Frag) : List V → Hp → VK → Prop := fun xs H Q => ∃ p ys, xs = [.ref p] ∧ ((SqL K H p ys ∧ ∀ l, H l = none → Q (.ref l) (upd H l (.tup ys))) ∨ (SqT K H p ys ∧ Q (.ref p) H))
def rAbs : List V → Hp → VK → Prop := fun xs H Q => ∃ i, xs = [.int i] ∧ Q (.int (if i < 0 then -i else i)) H
def rInt1 : List V → Hp → VK → Prop := fun xs H Q => (∃ i, xs = [.int i] ∧ Q (.int i) H) ∨ ∃ k, xs = [.bl k] ∧ Q (.int (if k then 1 else 0)) H
section
variable {X : Cx}
theorem call_absE : CallR X (.builtin "abs") rAbs := call_abs
theorem call_intE : CallR X (.type "int") rInt1 := call_int1
theorem call_isiE (K : PySem.W.Frag) (e : X.K = K := by rfl) : CallR X (.builtin "isinstance") (rIsi K) := by rw [← e]; exact call_isi
theorem call_lenE (K : PySem.W.Frag) (e : X.K = K := by rfl) : CallR X (.builtin "len") (rLenK K) := by rw [← e]; exact call_len
theorem call_listE (K : PySem.W.Frag) (e : X.K = K := by rfl) : CallR X (.type "list") (rListK K) := by rw [← e]; exact call_list_of
theorem call_tupleE (K : PySem.W.Frag) (e : X.K = K := by rfl) : CallR X (.type "tuple") (rTupleK K) := by rw [← e]; exact call_tuple_of
theorem ix_listE (K : PySem.W.Frag) (e : X.K = K := by rfl) : IxR X (rIxL K) := by rw [← e]; exact ix_list
theorem ix_tupE (K : PySem.W.Frag) (e : X.K = K := by rfl) : IxR X (rIxT K) := by rw [← e]; exact ix_tup
theorem sl_listE (K : PySem.W.Frag) (e : X.K = K := by rfl) : SlR X (rSlL K) := by rw [← e]; exact sl_list
theorem op_inE (K : PySem.W.Frag) (e : X.K = K := by rfl) : OpR X (compareOp .In) (rIn K false) := by rw [← e]; exact op_in_seq
theorem op_notInE (K : PySem.W.Frag) (e : X.K = K := by rfl) : OpR X (compareOp .NotIn) (rIn K true) := by rw [← e]; exact op_notIn_seq
theorem op_eqDE (K : PySem.W.Frag) (hu : X.A.units + 64 < cLine) (e : X.K = K := by rfl) : OpR X (compareOp .Eq) (rEqD K) := by rw [← e]; exact op_eqD hu
theorem op_neDE (K : PySem.W.Frag) (hu : X.A.units + 64 < cLine) (e : X.K = K := by rfl) : OpR X (compareOp .NotEq) (rNeD K) := by rw [← e]; exact op_neD hu
theorem pi_listE (K : PySem.W.Frag) {tg l : Expr} {tl : TE} (hl : PE X l tl) (e : X.K = K := by rfl) : PI X tg l (iList K tl) := by rw [← e]; exact pi_list hl
theorem pi_tupE (K : PySem.W.Frag) {tg l : Expr} {tl : TE} (hl : PE X l tl) (e : X.K = K := by rfl) : PI X tg l (iTup K tl) := by rw [← e]; exact pi_tup hl
theorem pe_orTE (K : PySem.W.Frag) {a b : Expr} {ta tb : TE} {rest : List Expr} {pos : Pos} (ha : PE X a ta) (hb : PE X (.BoolOp .Or (b :: rest) pos) tb) (e : X.K = K := by rfl) : PE X (.BoolOp .Or (a :: b :: rest) pos) (tOrT K ta tb) := by rw [← e]; exact pe_orT ha hb
end
/-! ## the reading, step by step -/
def NewO (o : List V → HO) (xs : List V) (H : Hp) (Q : VK) : Prop := xs.length ≤ sizeLine ∧ ∀ p, H p = none → Q (.ref p) (upd H p (o xs))
section
variable {σ : L2.St} {H : Hp} {Q : VK} {v x y : V} {i : Nat} {ta tb te : TE} {D : Ends} {t u : TS} {c c' : TT} {a b : Int} {K : PySem.W.Frag} {p : Addr} {xs ys : List V}
theorem z_var (h : σ[i]? = some (some v)) (q : Q v H) : tVar i σ H Q := ⟨v, h, q⟩
theorem z_c (q : Q v H) : tC v σ H Q := q
theorem z_op {r : R2} (q : ta σ H fun x H1 => tb σ H1 fun y H2 => r x y H2 Q) : tOp r ta tb σ H Q := q
theorem z_un {r : V → Hp → VK → Prop} (q : ta σ H fun x H1 => r x H1 Q) : tUn r ta σ H Q := q
theorem z_I0 {g : Int → Int → V} (q : Q (g a b) H) : rI0 g (.int a) (.int b) H Q := ⟨a, b, rfl, rfl, q⟩
theorem z_I {C : Int → Int → Prop} {g : Int → Int → V} (hc : C a b) (q : Q (g a b) H) : rI C g (.int a) (.int b) H Q := ⟨a, b, rfl, rfl, hc, q⟩
theorem z_U {g : Int → V} (q : Q (g a) H) : rU g (.int a) H Q := ⟨a, rfl, q⟩
theorem z_eqI (q : Q (.bl (decide (a = b))) H) : rEq (.int a) (.int b) H Q := ⟨rfl, by
  have e : decide (V.int a = V.int b) = decide (a = b) := by
    by_cases h : a = b
    · rw [h, decide_eq_true rfl, decide_eq_true rfl]
    · rw [decide_eq_false h, decide_eq_false (fun z => h (V.int.inj z))]
  rw [e]
  exact q⟩
theorem z_neI (q : Q (.bl (!decide (a = b))) H) : rNe (.int a) (.int b) H Q := ⟨rfl, by
  have e : decide (V.int a = V.int b) = decide (a = b) := by
    by_cases h : a = b
    · rw [h, decide_eq_true rfl, decide_eq_true rfl]
    · rw [decide_eq_false h, decide_eq_false (fun z => h (V.int.inj z))]
  rw [e]
  exact q⟩
theorem z_eqB {k l : Bool} (q : Q (.bl (decide (k = l))) H) : rEq (.bl k) (.bl l) H Q := ⟨rfl, by
  have e : decide (V.bl k = V.bl l) = decide (k = l) := by
    cases k <;> cases l <;> rfl
  rw [e]
  exact q⟩
theorem z_neB {k l : Bool} (q : Q (.bl (!decide (k = l))) H) : rNe (.bl k) (.bl l) H Q := ⟨rfl, by
  have e : decide (V.bl k = V.bl l) = decide (k = l) := by
    cases k <;> cases l <;> rfl
  rw [e]
  exact q⟩
theorem z_isB {k l : Bool} (q : Q (.bl (decide (k = l))) H) : rIsB (.bl k) (.bl l) H Q := ⟨k, l, rfl, rfl, q⟩
theorem z_notB {k l : Bool} (q : Q (.bl (!decide (k = l))) H) : rNotB (.bl k) (.bl l) H Q := ⟨k, l, rfl, rfl, q⟩
theorem z_ixL (h : SqL K H p xs) (e : atI xs a = some v) (q : Q v H) : rIxL K (.ref p) (.int a) H Q := ⟨p, xs, a, v, rfl, rfl, h, e, q⟩
theorem z_ixT (h : SqT K H p xs) (e : atI xs a = some v) (q : Q v H) : rIxT K (.ref p) (.int a) H Q := ⟨p, xs, a, v, rfl, rfl, h, e, q⟩
theorem z_nil {Q : List V → Hp → Prop} (q : Q [] H) : tNil σ H Q := q
theorem z_cons {tr : TA} {Q : List V → Hp → Prop} (q : ta σ H fun x H1 => tr σ H1 fun xs H2 => Q (x :: xs) H2) : tCons ta tr σ H Q := q
theorem z_tup {tr : TA} (q : tr σ H fun xs H1 => NewO HO.tup xs H1 Q) : tTup tr σ H Q := q
theorem z_lst {tr : TA} (q : tr σ H fun xs H1 => NewO HO.lst xs H1 Q) : tLst tr σ H Q := q
theorem z_call {sp : Sp} {dvs : List V} {E : XK} {tr : TA} (q : tr σ H fun vs H1 => sp (vs ++ dvs) H1 Q E) : tCall sp dvs E tr σ H Q := q
theorem z_cb {r : List V → Hp → VK → Prop} {tr : TA} (q : tr σ H fun vs H1 => r vs H1 Q) : tCB r tr σ H Q := q
theorem z_andV (q : ta σ H fun x H1 => ∃ c, x = .bl c ∧ if c = true then tb σ H1 Q else Q (.bl false) H1) : tAndV ta tb σ H Q := q
theorem z_orV (q : ta σ H fun x H1 => ∃ c, x = .bl c ∧ if c = true then Q (.bl true) H1 else tb σ H1 Q) : tOrV ta tb σ H Q := q
theorem z_notV (q : ta σ H fun x H1 => ∃ c, x = .bl c ∧ Q (.bl (!c)) H1) : tNotV ta σ H Q := q
theorem z_orTi (q : if a = 0 then tb σ H Q else Q (.int a) H) : (∃ k, TruV K (.int a) H k ∧ if k = true then Q (.int a) H else tb σ H Q) := by
  refine ⟨a != 0, rfl, ?_⟩
  by_cases h : a = 0
  · rw [if_pos h] at q
    rw [h]
    exact iteF q
  · rw [if_neg h] at q
    have e : (a != 0) = true := by simpa using h
    rw [e]
    exact iteT q
/-- x or y: what stands behind is shown once -/
theorem z_orCut (Pv : Int → Hp → Prop) (ha : a ≠ 0 → Pv a H) (hQ : ∀ m H', Pv m H' → Q (.int m) H') (hb : a = 0 → ∀ Q' : VK, (∀ m H', Pv m H' → Q' (.int m) H') → tb σ H Q') : (∃ k, TruV K (.int a) H k ∧ if k = true then Q (.int a) H else tb σ H Q) := by
  refine z_orTi ?_
  by_cases h : a = 0
  · rw [if_pos h]
    exact hb h Q hQ
  · rw [if_neg h]
    exact hQ _ _ (ha h)
theorem z_orT (q : ta σ H fun x H1 => ∃ k, TruV K x H1 k ∧ if k = true then Q x H1 else tb σ H1 Q) : tOrT K ta tb σ H Q := q
theorem z_ebl {k : Bool} {P : Bool → Prop} (q : P k) : ∃ c, V.bl k = V.bl c ∧ P c := ⟨k, rfl, q⟩
theorem z_eint {P : Int → Prop} (q : P a) : ∃ c, V.int a = V.int c ∧ P c := ⟨a, rfl, q⟩
theorem z_test {Q : Bool → Hp → Prop} (q : te σ H fun x H' => ∃ k, x = .bl k ∧ Q k H') : tTest te σ H Q := q
theorem z_B {Q : Bool → Hp → Prop} (q : te σ H fun x H' => ∃ k, x = .bl k ∧ Q k H') : tB te σ H Q := q
theorem z_and {Q : Bool → Hp → Prop} (q : c σ H fun k H1 => if k = true then c' σ H1 Q else Q false H1) : tAnd c c' σ H Q := q
theorem z_or {Q : Bool → Hp → Prop} (q : c σ H fun k H1 => if k = true then Q true H1 else c' σ H1 Q) : tOr c c' σ H Q := q
theorem z_not {Q : Bool → Hp → Prop} (q : c σ H fun k H1 => Q (!k) H1) : tNot c σ H Q := q
theorem z_yes {Q : Bool → Hp → Prop} (q : Q true H) : tYes σ H Q := q
theorem z_seq (q : t { D with nx := u D } σ H) : tSeq t u D σ H := q
theorem z_next (q : D.nx σ H) : tNext D σ H := q
theorem z_asg {g : TG} (q : te σ H fun x H1 => g x σ H1 D.nx) : tAsg te g D σ H := q
theorem z_name {Q : L2.St → Hp → Prop} (q : Q (σ.set i (some v)) H) : gName i v σ H Q := q
theorem z_ret (q : te σ H D.rt) : tRet te D σ H := q
theorem z_retN (q : D.rt .non H) : tRetN D σ H := q
theorem z_drop (q : te σ H fun _ H1 => D.nx σ H1) : tDrop te D σ H := q
theorem z_if (q : c σ H fun k H1 => if k = true then t D σ H1 else u D σ H1) : tIfS c t u D σ H := q
theorem z_par {j : Nat} {tr : TA} (q : tr σ H fun vs H1 => ∃ v w, vs = [v, w] ∧ D.nx ((σ.set i (some v)).set j (some w)) H1) : tPar i j tr D σ H := q
theorem z_par2 {w : V} {P : V → V → Prop} (q : P v w) : ∃ v' w', [v, w] = [v', w'] ∧ P v' w' := ⟨v, w, rfl, q⟩
theorem z_gTup {n : Nat} {g : TGs} {Q : L2.St → Hp → Prop} (h : SqT K H p xs) (hl : xs.length = n) (q : g xs σ H Q) : gTup K n g (.ref p) σ H Q := ⟨p, xs, rfl, h, hl, q⟩
theorem z_gCons {g : TG} {gs : TGs} {Q : L2.St → Hp → Prop} (q : g v σ H fun σ' H' => gs xs σ' H' Q) : gCons g gs (v :: xs) σ H Q := ⟨v, xs, rfl, q⟩
theorem z_gNil {Q : L2.St → Hp → Prop} (q : Q σ H) : gNil [] σ H Q := ⟨rfl, q⟩
theorem z_gSub {to ti : TE} {ts : TSet} {Q : L2.St → Hp → Prop} (q : to σ H fun o H1 => ti σ H1 fun i H2 => ts o i v H2 fun H3 => Q σ H3) : gSub to ti ts v σ H Q := q
theorem z_setL {j : Nat} {Q : Hp → Prop} (h : H p = some (.lst xs)) (e : ixN xs.length a = some j) (q : Q (upd H p (.lst (xs.set j v)))) : rSetL (.ref p) (.int a) v H Q := ⟨p, xs, a, j, rfl, rfl, h, e, q⟩
theorem z_isi {n s : String} {k : Bool} (hx : TyX K H x (.type n)) (hk : kitB n s = some k) (q : Q (.bl k) H) : rIsi K [x, .ty s] H Q := ⟨x, .ty s, .type n, .type s, k, rfl, .ty s, hx, kit_ty hk, q⟩
theorem z_new {o : List V → HO} (hl : xs.length ≤ 1000) (q : ∀ p H', H p = none → Same H H' → H' p = some (o xs) → Q (.ref p) H') : NewO o xs H Q :=
  ⟨Nat.le_of_lt (small1000 hl), fun p hp => q p _ hp (fun b u e => by rw [upd_ne (ne_of_none e hp)]; exact e) upd_same⟩
theorem z_lenT (h : H p = some (.tup xs)) (q : Q (.int xs.length) H) : rLenK K [.ref p] H Q := ⟨_, xs.length, rfl, .inr ⟨xs, SqT.of h, rfl⟩, q⟩
theorem z_lenL (h : SqL K H p xs) (q : Q (.int xs.length) H) : rLenK K [.ref p] H Q := ⟨_, xs.length, rfl, .inl ⟨xs, h, rfl⟩, q⟩
theorem z_slL {lo hi : Option Int} (h : SqL K H p xs) (q : ∀ p' H', H p' = none → Same H H' → H' p' = some (.lst (cutV xs lo hi)) → Q (.ref p') H') : rSlL K (.ref p) lo hi H Q :=
  ⟨p, xs, rfl, h, fun p' hp => q p' _ hp (fun b u e => by rw [upd_ne (ne_of_none e hp)]; exact e) upd_same⟩
theorem z_cat {l l' : Addr} (h : H l = some (.lst xs)) (h' : H l' = some (.lst ys)) (hl : xs.length + ys.length ≤ 1000) (q : ∀ p' H', H p' = none → Same H H' → H' p' = some (.lst (xs ++ ys)) → Q (.ref p') H') : rCat (.ref l) (.ref l') H Q :=
  ⟨l, l', xs, ys, rfl, rfl, h, h', Nat.le_of_lt (small1000 hl), fun p' hp => q p' _ hp (fun b u e => by rw [upd_ne (ne_of_none e hp)]; exact e) upd_same⟩
theorem z_eqD {d e : PyData} {k : Bool} (h : Dp K H x d) (h' : Dp K H y e) (s : SeqAt.shaped d = true) (s' : SeqAt.shaped e = true) (hk : PyData.eqv d e = k) (q : Q (.bl k) H) : rEqD K x y H Q := ⟨d, e, h, h', s, s', by rw [hk]; exact q⟩
theorem z_neD {d e : PyData} {k : Bool} (h : Dp K H x d) (h' : Dp K H y e) (s : SeqAt.shaped d = true) (s' : SeqAt.shaped e = true) (hk : PyData.eqv d e = k) (q : Q (.bl (!k)) H) : rNeD K x y H Q := ⟨d, e, h, h', s, s', by rw [hk]; exact q⟩
theorem z_intB {k : Bool} (q : Q (.int (if k then 1 else 0)) H) : rInt1 [.bl k] H Q := .inr ⟨k, rfl, q⟩
theorem z_abs (q : Q (.int (a.natAbs : Int)) H) : rAbs [.int a] H Q := ⟨a, rfl, by
  have e : (if a < 0 then -a else a) = (a.natAbs : Int) := by split <;> omega
  rw [e]
  exact q⟩
theorem z_pow (h : CPow a b) (q : Q (.int (a ^ b.toNat)) H) : rI CPow (fun i j => .int (i ^ j.toNat)) (.int a) (.int b) H Q := ⟨a, b, rfl, rfl, h, q⟩
theorem z_modN (h : b ≠ 0) (q : Q (.int (a.fmod b)) H) : rI (fun _ j => j ≠ 0) (fun i j => .int (i.fmod j)) (.int a) (.int b) H Q := ⟨a, b, rfl, rfl, h, q⟩
theorem z_mulA (h : CMulA a b) (q : Q (.int (a * b)) H) : rI CMulA (fun i j => .int (i * j)) (.int a) (.int b) H Q := ⟨a, b, rfl, rfl, h, q⟩
theorem z_fdivA (h : CDivA a b) (q : Q (.int (a.fdiv b)) H) : rI CDivA (fun i j => .int (i.fdiv j)) (.int a) (.int b) H Q := ⟨a, b, rfl, rfl, h, q⟩
theorem z_shlA (h : CShl a b) (q : Q (.int (a * 2 ^ b.toNat)) H) : rI CShl (fun i j => .int (i * 2 ^ j.toNat)) (.int a) (.int b) H Q := ⟨a, b, rfl, rfl, h, q⟩
theorem z_shrA (h : 0 ≤ b) (q : Q (.int (a / 2 ^ b.toNat)) H) : rI (fun _ j => 0 ≤ j) (fun i j => .int (i / 2 ^ j.toNat)) (.int a) (.int b) H Q := ⟨a, b, rfl, rfl, h, q⟩
theorem z_for {wi : TI} {g : TG} {tb : TS} (q : wi σ H fun J H1 => ∃ W : Nat → Nat → L2.St → Hp → Prop, (∃ m, W 0 m σ H1) ∧ ∀ i m σ H, W i m σ H →
  (J.stop i H ∧ D.nx σ H) ∨ (J.go i H ∧ ∃ N : L2.St → Hp → Prop, (∀ σ' H', N σ' H' → ∃ m', m' < m ∧ W (i + 1) m' σ' H') ∧ ∀ x H', J.yld i H x H' → g x σ H' fun σ2 H2 => tb { D with nx := N, ct := N, bk := D.nx } σ2 H2)) : tFor wi g tb D σ H := q
theorem z_rng1 {tr : TA} {R : It → Hp → Prop} (q : tr σ H fun vs H1 => ∃ j : Int, vs = [.int j] ∧ -(2 ^ 62) ≤ j ∧ j < 2 ^ 62 ∧ R (Itr 0 j.toNat) H1) : iRng1 tr σ H R := q
theorem z_iL {R : It → Hp → Prop} (q : te σ H fun x H1 => ∃ a, x = .ref a ∧ (∃ xs, SqL K H1 a xs) ∧ R (Itl K a) H1) : iList K te σ H R := q
theorem z_iT {R : It → Hp → Prop} (q : te σ H fun x H1 => ∃ a, x = .ref a ∧ (∃ xs, SqT K H1 a xs) ∧ R (Itt K a) H1) : iTup K te σ H R := q
theorem z_bm {T : String} {r : V → List V → Hp → VK → Prop} {to : TE} {tr : TA} (q : to σ H fun x H1 => tyV K T x H1 ∧ tr σ H1 fun xs H2 => r x xs H2 Q) : tBM K T r to tr σ H Q := q
theorem z_bits (q : te σ H fun x H1 => ∃ i, x = .int i ∧ Q (.int (Builtin.Int.intBits i : Nat)) H1) : tBits te σ H Q := q
theorem z_sl {r : V → Option Int → Option Int → Hp → VK → Prop} {tl th : TO} (q : te σ H fun x H1 => tl σ H1 fun l H2 => th σ H2 fun u H3 => r x l u H3 Q) : tSl r te tl th σ H Q := q
theorem z_noPart {Q : Option Int → Hp → Prop} (q : Q none H) : tNoPart σ H Q := q
theorem z_part {Q : Option Int → Hp → Prop} (q : te σ H fun x H1 => ∃ i, x = .int i ∧ Q (some i) H1) : tPart te σ H Q := q
theorem z_chain {r r' : R2} {tc : TE} (q : ta σ H fun x H1 => tb σ H1 fun y H2 => r x y H2 fun z H3 => ∃ k, z = .bl k ∧ (if k = true then tc σ H3 fun w' H4 => r' y w' H4 Q else Q (.bl false) H3)) : tChain r r' ta tb tc σ H Q := q
theorem z_itT {k : Bool} {A B : Prop} (e : k = true) (q : A) : if k = true then A else B := by rw [if_pos e]; exact q
theorem z_itF {k : Bool} {A B : Prop} (e : k = false) (q : B) : if k = true then A else B := by rw [e]; exact iteF q
/-- what stands behind is shown once -/
theorem cutT {σ : L2.St} {H : Hp} {t : TT} {Q : Bool → Hp → Prop} (Pv : Bool → Hp → Prop) (h : ∀ Q' : Bool → Hp → Prop, (∀ k H', Pv k H' → Q' k H') → t σ H Q') (hQ : ∀ k H', Pv k H' → Q k H') : t σ H Q := h Q hQ
theorem cutE {σ : L2.St} {H : Hp} {t : TE} {Q : VK} (Pv : V → Hp → Prop) (h : ∀ Q' : VK, (∀ k H', Pv k H' → Q' k H') → t σ H Q') (hQ : ∀ k H', Pv k H' → Q k H') : t σ H Q := h Q hQ
theorem cutS {σ : L2.St} {H : Hp} {t : TS} {D : Ends} (Pv : L2.St → Hp → Prop) (h : ∀ D' : Ends, (∀ σ' H', Pv σ' H' → D'.nx σ' H') → D'.rt = D.rt → D'.bk = D.bk → D'.ct = D.ct → t D' σ H) (hQ : ∀ σ' H', Pv σ' H' → D.nx σ' H') : t D σ H := h D hQ rfl rfl rfl
theorem sz {n : Nat} (h : n ≤ 1000) : n ≤ sizeLine := Nat.le_of_lt (small1000 h)
theorem z_ite {P : Prop} {A B : Prop} [Decidable P] (h1 : P → A) (h2 : ¬ P → B) : if decide P = true then A else B := by
  by_cases h : P
  · rw [decide_eq_true h]
    exact iteT (h1 h)
  · rw [decide_eq_false h]
    exact iteF (h2 h)
theorem z_nite {P : Prop} {A B : Prop} [Decidable P] (h1 : ¬ P → A) (h2 : P → B) : if (!decide P) = true then A else B := by
  by_cases h : P
  · rw [decide_eq_true h]
    exact iteF (h2 h)
  · rw [decide_eq_false h]
    exact iteT (h1 h)
end
/-! ## the source of draws: a list of three ints; all else stays -/
def Src (H : Hp) (s : Addr) : Prop := ∃ a b c : Int, H s = some (.lst [.int a, .int b, .int c])
structure Dr (s : Addr) (H H' : Hp) : Prop where
  keep : ∀ a o, a ≠ s → H a = some o → H' a = some o
  src : Src H' s
  src0 : Src H s
theorem Dr.trans {s : Addr} {H H1 H2 : Hp} (a : Dr s H H1) (b : Dr s H1 H2) : Dr s H H2 := ⟨fun x o n h => b.keep x o n (a.keep x o n h), b.src, a.src0⟩
theorem Dr.refl {s : Addr} {H : Hp} (h : Src H s) : Dr s H H := ⟨fun _ _ _ h => h, h, h⟩
theorem Src.same {s : Addr} {H H' : Hp} (h : Src H s) (e : Same H H') : Src H' s := by
  obtain ⟨a, b, c, h⟩ := h
  exact ⟨a, b, c, e _ _ h⟩
theorem Src.ne {s p : Addr} {H : Hp} (h : Src H s) (n : H p = none) : p ≠ s := by
  obtain ⟨a, b, c, h⟩ := h
  intro z
  rw [z, h] at n
  cases n
theorem Dr.of_same {s : Addr} {H H' : Hp} (h : Src H s) (e : Same H H') : Dr s H H' := ⟨fun a o _ h => e a o h, h.same e, h⟩
theorem Dr.tup {s a : Addr} {H H' : Hp} {xs : List V} (d : Dr s H H') (ht : H a = some (.tup xs)) : H' a = some (.tup xs) := by
  obtain ⟨x, y, z, h⟩ := d.src0
  exact d.keep a _ (ne_of ht h (by intro q; cases q)) ht
theorem Dr.frz {s a : Addr} {H H' : Hp} {o : Obj} {u : HO} (d : Dr s H H') (ht : H a = some (.frz o u)) : H' a = some (.frz o u) := by
  obtain ⟨x, y, z, h⟩ := d.src0
  exact d.keep a _ (ne_of ht h (by intro q; cases q)) ht
theorem same_get {H H' : Hp} {a : Addr} {o : HO} (e : Same H H') (h : H a = some o) : H' a = some o := e a o h
theorem dpPair {K : PySem.W.Frag} {H : Hp} {p : Addr} {x y : Int} (h : H p = some (.tup [.int x, .int y])) : Dp K H (.ref p) (.tuple [.int x, .int y]) := .tup (SqT.of h) (.cons (.int x) (.cons (.int y) .nil))
theorem shPair (x y : Int) : SeqAt.shaped (.tuple [.int x, .int y]) = true := rfl
theorem eqvPair (x y x' y' : Int) : PyData.eqv (.tuple [.int x, .int y]) (.tuple [.int x', .int y']) = (decide (x = x') && decide (y = y')) := by
  by_cases h : x = x' <;> by_cases h' : y = y' <;> simp [PyData.eqv, PyData.eqvAll, h, h']
theorem eqvPair_of {x y x' y' : Int} (h : x = x') (h' : y = y') : PyData.eqv (.tuple [.int x, .int y]) (.tuple [.int x', .int y']) = true := by
  rw [eqvPair, decide_eq_true h, decide_eq_true h']
  rfl
theorem bool_bl {k l : Bool} (e : k = l) {Q : VK} {H : Hp} (q : Q (.bl l) H) : Q (.bl k) H := by rw [e]; exact q
end Zk
set_option Elab.async false
set_option linter.all false
set_option maxRecDepth 100000
set_option maxHeartbeats 2000000
namespace Zk
open PySem PySem.Spec PyProof.Rows L2
/-! ## pairs: the mathematics -/
def dvs (n d : Int) : Int := if d < 0 then -(Nat.gcd n.natAbs d.natAbs : Int) else (Nat.gcd n.natAbs d.natAbs : Int)
def pn (n d : Int) : Int := n.fdiv (dvs n d)
def pd (n d : Int) : Int := d.fdiv (dvs n d)
theorem gcd_pos {n d : Int} (h : d ≠ 0) : 0 < Nat.gcd n.natAbs d.natAbs := Nat.gcd_pos_of_pos_right _ (by omega)
theorem dvs_ne {n d : Int} (h : d ≠ 0) : dvs n d ≠ 0 := by
  have := gcd_pos (n := n) h
  unfold dvs
  split <;> omega
theorem dvs_abs (n d : Int) : (dvs n d).natAbs = Nat.gcd n.natAbs d.natAbs := by
  unfold dvs
  split <;> omega
theorem dvs_l (n d : Int) : dvs n d ∣ n := by
  rw [← Int.natAbs_dvd_natAbs, dvs_abs]
  exact Nat.gcd_dvd_left _ _
theorem dvs_r (n d : Int) : dvs n d ∣ d := by
  rw [← Int.natAbs_dvd_natAbs, dvs_abs]
  exact Nat.gcd_dvd_right _ _
theorem pn_mul (n d : Int) : pn n d * dvs n d = n := Int.fdiv_mul_cancel (dvs_l n d)
theorem pd_mul (n d : Int) : pd n d * dvs n d = d := Int.fdiv_mul_cancel (dvs_r n d)
theorem pn_abs (n d : Int) : (pn n d).natAbs * Nat.gcd n.natAbs d.natAbs = n.natAbs := by
  have h := congrArg Int.natAbs (pn_mul n d)
  rw [Int.natAbs_mul, dvs_abs] at h
  exact h
theorem pd_abs (n d : Int) : (pd n d).natAbs * Nat.gcd n.natAbs d.natAbs = d.natAbs := by
  have h := congrArg Int.natAbs (pd_mul n d)
  rw [Int.natAbs_mul, dvs_abs] at h
  exact h
theorem pd_pos {n d : Int} (h : d ≠ 0) : 0 < pd n d := by
  have e := pd_mul n d
  have g := gcd_pos (n := n) h
  unfold dvs at e
  by_cases hd : d < 0
  · rw [if_pos hd] at e
    rcases (show 0 < pd n d ∨ pd n d ≤ 0 by omega) with q | q
    · exact q
    · exfalso
      have : 0 ≤ pd n d * -(Nat.gcd n.natAbs d.natAbs : Int) := Int.mul_nonneg_of_nonpos_of_nonpos q (by omega)
      omega
  · rw [if_neg hd] at e
    rcases (show 0 < pd n d ∨ pd n d ≤ 0 by omega) with q | q
    · exact q
    · exfalso
      have : pd n d * (Nat.gcd n.natAbs d.natAbs : Int) ≤ 0 := Int.mul_nonpos_of_nonpos_of_nonneg q (by omega)
      omega
theorem pr_cross (n d : Int) : pn n d * d = n * pd n d := by
  have e1 := pn_mul n d
  have e2 := pd_mul n d
  calc pn n d * d = pn n d * (pd n d * dvs n d) := by rw [e2]
    _ = (pn n d * dvs n d) * pd n d := by rw [Int.mul_comm (pd n d), Int.mul_assoc]
    _ = n * pd n d := by rw [e1]
theorem pr_gcd {n d : Int} (h : d ≠ 0) : Nat.gcd (pn n d).natAbs (pd n d).natAbs = 1 := by
  have g := gcd_pos (n := n) h
  have e := Nat.gcd_mul_right (pn n d).natAbs (Nat.gcd n.natAbs d.natAbs) (pd n d).natAbs
  rw [pn_abs, pd_abs] at e
  exact Nat.eq_of_mul_eq_mul_right g (by omega)
theorem pn_le {n d : Int} (h : d ≠ 0) : (pn n d).natAbs ≤ n.natAbs := by
  have g := gcd_pos (n := n) h
  have e := pn_abs n d
  have : (pn n d).natAbs * 1 ≤ (pn n d).natAbs * Nat.gcd n.natAbs d.natAbs := Nat.mul_le_mul_left _ g
  omega
theorem pd_le {n d : Int} (h : d ≠ 0) : (pd n d).natAbs ≤ d.natAbs := by
  have g := gcd_pos (n := n) h
  have e := pd_abs n d
  have : (pd n d).natAbs * 1 ≤ (pd n d).natAbs * Nat.gcd n.natAbs d.natAbs := Nat.mul_le_mul_left _ g
  omega
/-- a pair in lowest terms -/
structure Low (x y : Int) : Prop where
  pos : 0 < y
  one : Nat.gcd x.natAbs y.natAbs = 1
theorem low_pair {n d : Int} (h : d ≠ 0) : Low (pn n d) (pd n d) := ⟨pd_pos h, pr_gcd h⟩
theorem low_eq {x y x' y' : Int} (h : Low x y) (h' : Low x' y') (e : x * y' = x' * y) : x = x' ∧ y = y' := by
  have ea := congrArg Int.natAbs e
  rw [Int.natAbs_mul, Int.natAbs_mul] at ea
  have d1 : y.natAbs ∣ y'.natAbs := by
    refine Nat.Coprime.dvd_of_dvd_mul_left (k := y.natAbs) (m := x.natAbs) (n := y'.natAbs) ?_ ?_
    · rw [Nat.Coprime, Nat.gcd_comm]
      exact h.one
    · exact ⟨x'.natAbs, by rw [ea, Nat.mul_comm]⟩
  have d2 : y'.natAbs ∣ y.natAbs := by
    refine Nat.Coprime.dvd_of_dvd_mul_left (k := y'.natAbs) (m := x'.natAbs) (n := y.natAbs) ?_ ?_
    · rw [Nat.Coprime, Nat.gcd_comm]
      exact h'.one
    · exact ⟨x.natAbs, by rw [← ea, Nat.mul_comm]⟩
  have ey := Nat.dvd_antisymm d1 d2
  have p1 := h.pos
  have p2 := h'.pos
  have ey2 : y = y' := by omega
  refine ⟨?_, ey2⟩
  rw [← ey2] at e
  exact Int.eq_of_mul_eq_mul_right (by omega) e
/-- a pair is told by its worth -/
theorem pair_eq {n d n' d' : Int} (h : d ≠ 0) (h' : d' ≠ 0) (e : n * d' = n' * d) : pn n d = pn n' d' ∧ pd n d = pd n' d' := by
  refine low_eq (low_pair h) (low_pair h') ?_
  have c1 := pr_cross n d
  have c2 := pr_cross n' d'
  have e2 : (pn n d * pd n' d') * (d * d') = (pn n' d' * pd n d) * (d * d') := by
    calc (pn n d * pd n' d') * (d * d') = (pn n d * d) * (d' * pd n' d') := by
          rw [Int.mul_comm d' (pd n' d'), Int.mul_assoc, Int.mul_assoc, ← Int.mul_assoc (pd n' d') d d', Int.mul_comm (pd n' d') d, Int.mul_assoc]
      _ = (n * pd n d) * (d' * pd n' d') := by rw [c1]
      _ = (n * d') * (pd n d * pd n' d') := by
          rw [Int.mul_assoc, Int.mul_assoc, ← Int.mul_assoc (pd n d) d', Int.mul_comm (pd n d) d', Int.mul_assoc]
      _ = (n' * d) * (pd n d * pd n' d') := by rw [e]
      _ = (n' * pd n' d') * (d * pd n d) := by
          rw [Int.mul_assoc, Int.mul_assoc, Int.mul_comm (pd n d) (pd n' d'), ← Int.mul_assoc d, Int.mul_comm d (pd n' d'), Int.mul_assoc]
      _ = (pn n' d' * d') * (d * pd n d) := by rw [c2]
      _ = (pn n' d' * pd n d) * (d * d') := by
          rw [Int.mul_assoc, Int.mul_assoc, Int.mul_comm d (pd n d), ← Int.mul_assoc d', Int.mul_comm d' (pd n d), Int.mul_assoc, Int.mul_comm d' d]
  exact Int.eq_of_mul_eq_mul_right (by
    intro z
    rcases Int.mul_eq_zero.mp z with q | q
    · exact h q
    · exact h' q) e2
/-- of a pair in lowest terms pair tells itself -/
theorem pair_self {x y : Int} (h : Low x y) : pn x y = x ∧ pd x y = y :=
  low_eq (low_pair (by have := h.pos; omega)) h (by rw [pr_cross])
theorem lt_pow {a b n : Nat} (h : a ≤ b) (hb : b < 2 ^ n) : a < 2 ^ n := Nat.lt_of_le_of_lt h hb
theorem pw_mono {a m n : Nat} (h : a < 2 ^ m) (hn : m ≤ n) : a < 2 ^ n := Nat.lt_of_lt_of_le h (Nat.pow_le_pow_right (by decide) hn)
theorem pw_mul {a b : Int} {m n : Nat} (ha : a.natAbs < 2 ^ m) (hb : b.natAbs < 2 ^ n) : (a * b).natAbs < 2 ^ (m + n) := wide_lt ha hb
theorem pw_add {a b : Int} {n : Nat} (ha : a.natAbs < 2 ^ n) (hb : b.natAbs < 2 ^ n) : (a + b).natAbs < 2 ^ (n + 1) := by
  rw [Nat.pow_succ]
  omega
theorem pw_sub {a b : Int} {n : Nat} (ha : a.natAbs < 2 ^ n) (hb : b.natAbs < 2 ^ n) : (a - b).natAbs < 2 ^ (n + 1) := by
  rw [Nat.pow_succ]
  omega
theorem ipow_le {c a b : Nat} (hc : 0 < c) (h : a ≤ b) : (c : Int) ^ a ≤ (c : Int) ^ b := by
  rw [← Int.natCast_pow, ← Int.natCast_pow]
  exact Int.ofNat_le.mpr (Nat.pow_le_pow_right hc h)
theorem fm2 (x : Nat) : (x : Int).fmod 2 = ((x % 2 : Nat) : Int) := by
  rw [Int.fmod_eq_emod_of_nonneg _ (by decide)]
  rfl
theorem sh1 (x : Nat) : (x : Int) / 2 ^ Int.toNat 1 = ((x / 2 : Nat) : Int) := rfl
theorem gcd_both {x y : Nat} (hx : x % 2 = 0) (hy : y % 2 = 0) : Nat.gcd x y = 2 * Nat.gcd (x / 2) (y / 2) := by
  have ex : x = 2 * (x / 2) := by omega
  have ey : y = 2 * (y / 2) := by omega
  rw [← Nat.gcd_mul_left, ← ex, ← ey]
theorem dvd_two {k : Nat} (h : k ∣ 2) : k = 1 ∨ k = 2 := by
  have : k ≤ 2 := Nat.le_of_dvd (by decide) h
  rcases (show k = 0 ∨ k = 1 ∨ k = 2 by omega) with rfl | rfl | rfl
  · exact absurd h (by decide)
  · exact .inl rfl
  · exact .inr rfl
theorem gcd_left {x y : Nat} (hx : x % 2 = 0) (hy : y % 2 = 1) : Nat.gcd (x / 2) y = Nat.gcd x y := by
  have ex : x = 2 * (x / 2) := by omega
  have c : Nat.Coprime 2 y := by
    unfold Nat.Coprime
    have := Nat.gcd_dvd_left 2 y
    have h2 : Nat.gcd 2 y ∣ y := Nat.gcd_dvd_right 2 y
    rcases (dvd_two this) with h | h
    · exact h
    · rw [h] at h2
      omega
  have h := Nat.Coprime.gcd_mul_left_cancel (x / 2) c
  rw [← ex] at h
  exact h.symm
theorem gcd_right {x y : Nat} (hx : x % 2 = 1) (hy : y % 2 = 0) : Nat.gcd x (y / 2) = Nat.gcd x y := by
  rw [Nat.gcd_comm x, Nat.gcd_comm x]
  exact gcd_left hy hx
theorem gcd_sub {x y : Nat} (h : y ≤ x) : Nat.gcd (x - y) y = Nat.gcd x y := Nat.gcd_sub_self_left h
/-- the while loops' tests pass on what they find -/
theorem mono_neI {i : Nat} {n : Int} {σ : L2.St} {H : Hp} {Q Q' : Bool → Hp → Prop} (hQ : ∀ b H1, Q b H1 → Q' b H1) (h : tTest (tOp rNe (tVar i) (tC (.int n))) σ H Q) : tTest (tOp rNe (tVar i) (tC (.int n))) σ H Q' := by
  obtain ⟨v, e, s, k, e2, q⟩ := h
  exact ⟨v, e, s, k, e2, hQ _ _ q⟩
end Zk
local macro_rules | `(tactic| walk_at "z0") => `(tactic| first
  | ((with_reducible refine Zk.z_var (v := ?zv) ?zh ?_); (case zh => exact rfl))
  | (with_reducible refine Zk.z_c ?_)
  | (with_reducible refine Zk.z_op ?_)
  | (with_reducible refine Zk.z_un ?_)
  | (with_reducible refine Zk.z_I0 ?_)
  | (with_reducible refine Zk.z_U ?_)
  | (with_reducible refine Zk.z_eqI ?_)
  | (with_reducible refine Zk.z_neI ?_)
  | (with_reducible refine Zk.z_eqB ?_)
  | (with_reducible refine Zk.z_neB ?_)
  | (with_reducible refine Zk.z_isB ?_)
  | (with_reducible refine Zk.z_notB ?_)
  | (with_reducible refine Zk.z_nil ?_)
  | (with_reducible refine Zk.z_cons ?_)
  | (with_reducible refine Zk.z_tup ?_)
  | (with_reducible refine Zk.z_lst ?_)
  | (with_reducible refine Zk.z_call ?_)
  | (with_reducible refine Zk.z_cb ?_)
  | (with_reducible refine Zk.z_orV ?_)
  | (with_reducible refine Zk.z_notV ?_)
  | (with_reducible refine Zk.z_ebl ?_)
  | (with_reducible refine Zk.z_eint ?_)
  | (with_reducible refine Zk.z_test ?_)
  | (with_reducible refine Zk.z_B ?_)
  | (with_reducible refine Zk.z_or ?_)
  | (with_reducible refine Zk.z_not ?_)
  | (with_reducible refine Zk.z_yes ?_)
  | (with_reducible refine Zk.z_seq ?_)
  | (with_reducible refine Zk.z_next ?_)
  | (with_reducible refine Zk.z_asg ?_)
  | (with_reducible refine Zk.z_name ?_)
  | (with_reducible refine Zk.z_ret ?_)
  | (with_reducible refine Zk.z_retN ?_)
  | (with_reducible refine Zk.z_drop ?_)
  | (with_reducible refine Zk.z_if ?_)
  | (with_reducible refine Zk.z_par ?_)
  | (with_reducible refine Zk.z_par2 ?_)
  | (with_reducible refine Zk.z_gSub ?_)
  | (with_reducible refine Zk.z_gCons ?_)
  | (with_reducible refine Zk.z_gNil ?_)
  | ((with_reducible refine Zk.z_pow ?zh ?_); (case zh => exact ⟨by decide, by decide, by decide⟩))
  | ((with_reducible refine Zk.z_modN ?zh ?_); (case zh => first | decide | omega))
  | (with_reducible refine Zk.z_for ?_)
  | (with_reducible refine Zk.z_rng1 ?_)
  | (with_reducible refine Zk.z_iL ?_)
  | (with_reducible refine Zk.z_iT ?_)
  | (with_reducible refine Zk.z_bm ?_)
  | (with_reducible refine Zk.z_bits ?_)
  | (with_reducible refine Zk.z_sl ?_)
  | (with_reducible refine Zk.z_noPart ?_)
  | (with_reducible refine Zk.z_part ?_)
  | (with_reducible refine Zk.z_chain ?_)
  | (with_reducible refine Zk.z_abs ?_)
  | (with_reducible refine Zk.z_intB ?_)
  | (with_reducible refine L2.iteT ?_)
  | (with_reducible refine L2.iteF ?_)
  | ((with_reducible refine Zk.z_itT ?zh ?_); (case zh => exact rfl))
  | ((with_reducible refine Zk.z_itF ?zh ?_); (case zh => exact rfl)))
local macro_rules | `(tactic| walk_at "z") => `(tactic| first
  | (walk_at "z0")
  | (with_reducible refine Zk.z_andV ?_)
  | (with_reducible refine Zk.z_and ?_)
  | (with_reducible refine Zk.z_orT ?_))
local macro_rules | `(tactic| walk_at "zy") => `(tactic| repeat (walk_at "z0"))
local macro_rules | `(tactic| walk_at "zz") => `(tactic| repeat (walk_at "z"))
local macro_rules | `(tactic| walk_at "lk") => `(tactic| first
  | assumption
  | ((refine Zk.same_get (by assumption) ?_); walk_at "lk")
  | ((refine Zk.Dr.tup (by assumption) ?_); walk_at "lk"))
namespace Zl
open PySem PySem.Spec PyProof.Rows L2 Zk
def topS (i : Nat) : Stmt := PySem.Challenge.pw_sumtold_k04_whole_sums_of_pairs.main.body.getD i (.Pass ⟨0, 0, 0, 0⟩)
abbrev s_greatest_divisor : Stmt := topS 1
theorem sc_greatest_divisor : FnScope ["one", "other"] ["one", "other"] (defScope s_greatest_divisor) := ⟨rfl, rfl, rfl, by decide +kernel, rfl, by decide +kernel, by decide +kernel⟩
abbrev s_pair : Stmt := topS 2
theorem sc_pair : FnScope ["num", "den", "divisor"] ["num", "den"] (defScope s_pair) := ⟨rfl, rfl, rfl, by decide +kernel, rfl, by decide +kernel, by decide +kernel⟩
abbrev s_plus : Stmt := topS 3
theorem sc_plus : FnScope ["one", "other"] ["one", "other"] (defScope s_plus) := ⟨rfl, rfl, rfl, by decide +kernel, rfl, by decide +kernel, by decide +kernel⟩
abbrev s_less : Stmt := topS 4
theorem sc_less : FnScope ["one", "other"] ["one", "other"] (defScope s_less) := ⟨rfl, rfl, rfl, by decide +kernel, rfl, by decide +kernel, by decide +kernel⟩
abbrev s_times : Stmt := topS 5
theorem sc_times : FnScope ["one", "other"] ["one", "other"] (defScope s_times) := ⟨rfl, rfl, rfl, by decide +kernel, rfl, by decide +kernel, by decide +kernel⟩
abbrev s_below : Stmt := topS 6
theorem sc_below : FnScope ["one", "other"] ["one", "other"] (defScope s_below) := ⟨rfl, rfl, rfl, by decide +kernel, rfl, by decide +kernel, by decide +kernel⟩
abbrev s_nearest : Stmt := topS 7
theorem sc_nearest : FnScope ["one", "num", "den"] ["one"] (defScope s_nearest) := ⟨rfl, rfl, rfl, by decide +kernel, rfl, by decide +kernel, by decide +kernel⟩
abbrev s__law_cell_at : Stmt := topS 9
theorem sc__law_cell_at : FnScope ["_law_script", "_law_k"] ["_law_script", "_law_k"] (defScope s__law_cell_at) := ⟨rfl, rfl, rfl, by decide +kernel, rfl, by decide +kernel, by decide +kernel⟩
abbrev s__law_begin : Stmt := topS 10
theorem sc__law_begin : FnScope ["_law_cell"] ["_law_cell"] (defScope s__law_begin) := ⟨rfl, rfl, rfl, by decide +kernel, rfl, by decide +kernel, by decide +kernel⟩
abbrev s__law_draw : Stmt := topS 11
theorem sc__law_draw : FnScope ["_law_source", "_law_most", "_law_found", "_law_number"] ["_law_source", "_law_most"] (defScope s__law_draw) := ⟨rfl, rfl, rfl, by decide +kernel, rfl, by decide +kernel, by decide +kernel⟩
abbrev s__law_far : Stmt := topS 12
theorem sc__law_far : FnScope ["_law_source", "_law_way", "_law_small", "_law_great", "_law_k", "_law_twos"] ["_law_source"] (defScope s__law_far) := ⟨rfl, rfl, rfl, by decide +kernel, rfl, by decide +kernel, by decide +kernel⟩
abbrev s__law_right : Stmt := topS 13
theorem sc__law_right : FnScope ["_law_a", "_law_b", "_law_c", "_law_far_here"] ["_law_a", "_law_b", "_law_c"] (defScope s__law_right) := ⟨rfl, rfl, rfl, by decide +kernel, rfl, by decide +kernel, by decide +kernel⟩
abbrev s_law : Stmt := topS 14
theorem sc_law : FnScope ["_law_script", "_law_cell", "_law_source", "_law_some", "_law_k"] ["_law_script"] (defScope s_law) := ⟨rfl, rfl, rfl, by decide +kernel, rfl, by decide +kernel, by decide +kernel⟩
section
variable {P : Program} {w : World} {K : PySem.W.Frag} {mg : Str → Option Value} {base : Heap}
def spGcd : Sp := fun vs H Q _ => ∃ a b : Int, vs = [.int a, .int b] ∧ Q (.int ((Nat.gcd a.natAbs b.natAbs : Nat) : Int)) H
theorem ok_greatest_divisor {f : Addr} {fd : FuncData} (F : FnP K "greatest_divisor" s_greatest_divisor f fd) (m_abs : mg "abs" = none) : FnOk P w K mg base CX0 1 f fd ["one", "other"] spGcd := by
  refine F.ok sc_greatest_divisor (fun vs H Q E h => ?_) (fun cdv A outer s H vs Q E hr h => ?_)
  · obtain ⟨a, b, rfl, _⟩ := h; rfl
  obtain ⟨a, b, rfl, q⟩ := h
  refine ⟨_, PSs.nox (pss_cons (ps_par (i := 0) (j := 1) (by rfl) sc_greatest_divisor.nd rfl rfl (by decide) rfl rfl (pa_cons (pe_callB call_absE (by rfl) m_abs (by decide +kernel) (pa_cons (pv 0) pa_nil)) (pa_cons (pe_callB call_absE (by rfl) m_abs (by decide +kernel) (pa_cons (pv 1) pa_nil)) pa_nil)) (by rfl))
  (pss_cons (ps_while PassesOwn.never (pt_cmpR op_ne (pv 1) pe_int (nomark _))
    (pss_one (ps_par (i := 0) (j := 1) (by rfl) sc_greatest_divisor.nd rfl rfl (by decide) rfl rfl (pa_cons (pv 1) (pa_cons (pe_op op_modN (pv 0) (pv 1)) pa_nil)) (by rfl))))
  (pss_one (ps_ret (pv 0))))), ?_⟩
  walk_at "zz"
  refine while_by (fun σ H' => ∃ n m : Nat, σ = [some (.int (n : Int)), some (.int (m : Int))] ∧ H' = H ∧ Nat.gcd n m = Nat.gcd a.natAbs b.natAbs) (fun σ _ => match σ with | [_, some (.int m)] => m.toNat | _ => 0) ⟨a.natAbs, b.natAbs, ?_, rfl, rfl⟩ ?_ ?_
  · rfl
  · rintro σ H' ⟨n, m, rfl, rfl, hg⟩
    walk_at "zz"
    refine z_nite (fun h0 => ?_) (fun h0 => ?_)
    · walk_at "zz"
      refine ⟨⟨m, n % m, ?_, rfl, ?_⟩, ?_⟩
      · rw [Int.fmod_eq_emod_of_nonneg _ (by omega), ← Int.natCast_emod]
        rfl
      · rw [← hg, Nat.gcd_comm m, ← Nat.gcd_rec, Nat.gcd_comm]
      · show (Int.fmod (n : Int) (m : Int)).toNat < ((m : Int)).toNat
        rw [Int.fmod_eq_emod_of_nonneg _ (by omega), ← Int.natCast_emod, Int.toNat_natCast, Int.toNat_natCast]
        exact Nat.mod_lt _ (by omega)
    · walk_at "zz"
      have e : m = 0 := by omega
      rw [e, Nat.gcd_zero_right] at hg
      rw [hg]
      exact q
  · intro σ H Q Q' hQ h
    exact mono_neI hQ h
def spPair (K : PySem.W.Frag) : Sp := fun vs H Q _ => ∃ n d : Int, vs = [.int n, .int d] ∧ d ≠ 0 ∧ d.natAbs < 2 ^ 8000 ∧ ∀ p H', H p = none → Same H H' → H' p = some (.tup [.int (pn n d), .int (pd n d)]) → Q (.ref p) H'
theorem ok_pair {f : Addr} {fd : FuncData} (F : FnP K "pair" s_pair f fd) (h_greatest_divisor : Has P w K mg base 1 "greatest_divisor" ["one", "other"] spGcd) : FnOk P w K mg base CX0 2 f fd ["num", "den"] (spPair K) := by
  refine F.ok sc_pair (fun vs H Q E h => ?_) (fun cdv A outer s H vs Q E hr h => ?_)
  · obtain ⟨n, d, rfl, _⟩ := h; rfl
  obtain ⟨n, d, rfl, h0, hb, q⟩ := h
  refine ⟨_, PSs.nox (pss_cons (ps_set (i := 2) sc_pair.nd rfl (.inl rfl) (pe_callH h_greatest_divisor (hr.mono (by decide)) (by rfl) (pa_cons (pv 0) (pa_cons (pv 1) pa_nil))))
  (pss_cons (ps_if (pt_cmpR op_lt (pv 1) pe_int (nomark _))
    (pss_one (ps_set (i := 2) sc_pair.nd rfl (.inl rfl) (pe_un un_neg (pv 2))))
    pss_nil)
  (pss_one (ps_ret (pe_tup (pa_cons (pe_op op_fdivA (pv 0) (pv 2)) (pa_cons (pe_op op_fdivA (pv 1) (pv 2)) pa_nil))))))), ?_⟩
  have hd : ∀ x : Int, CDivA x (dvs n d) := fun x => divA (n := 8000) (dvs_ne h0) (by
    rw [dvs_abs]
    exact Nat.lt_of_le_of_lt (Nat.gcd_le_right _ (by omega)) hb) (by decide) (by decide)
  have e : ∀ b : Bool, b = decide (d < 0) → dvs n d = if b = true then -((Nat.gcd n.natAbs d.natAbs : Nat) : Int) else ((Nat.gcd n.natAbs d.natAbs : Nat) : Int) := by
    intro b hb
    rw [hb]
    unfold dvs
    by_cases h : d < 0
    · rw [if_pos h, if_pos (decide_eq_true h)]
    · rw [if_neg h, if_neg (by simpa using h)]
  walk_at "zz"
  refine ⟨n, d, rfl, ?_⟩
  walk_at "zz"
  refine z_ite (fun h => ?_) (fun h => ?_)
  all_goals
    walk_at "zz"
    have ed := e _ rfl
    simp only [h, decide_true, decide_false, if_true, Bool.false_eq_true, if_false] at ed
    rw [← ed]
    refine z_I (hd _) ?_
    walk_at "zz"
    refine z_I (hd _) ?_
    walk_at "zz"
    exact z_new (by simp) q
def spPlus : Sp := fun vs H Q _ => ∃ (p q : Addr) (a b c d : Int), vs = [.ref p, .ref q] ∧ H p = some (.tup [.int a, .int b]) ∧ H q = some (.tup [.int c, .int d]) ∧ 0 < b ∧ 0 < d ∧ a.natAbs < 2 ^ 3000 ∧ b.natAbs < 2 ^ 3000 ∧ c.natAbs < 2 ^ 3000 ∧ d.natAbs < 2 ^ 3000 ∧
  ∀ r H', H r = none → Same H H' → H' r = some (.tup [.int (pn (a * d + c * b) (b * d)), .int (pd (a * d + c * b) (b * d))]) → Q (.ref r) H'
theorem ok_plus {f : Addr} {fd : FuncData} (F : FnP K "plus" s_plus f fd) (h_pair : Has P w K mg base 2 "pair" ["num", "den"] (spPair K)) : FnOk P w K mg base CX0 3 f fd ["one", "other"] spPlus := by
  refine F.ok sc_plus (fun vs H Q E h => ?_) (fun cdv A outer s H vs Q E hr h => ?_)
  · obtain ⟨p, q, a, b, c, d, rfl, _⟩ := h; rfl
  obtain ⟨p, q, a, b, c, d, rfl, hp, hq, b0, d0, ba, bb, bc, bd, k⟩ := h
  refine ⟨_, PSs.nox (pss_one (ps_ret (pe_callH h_pair (hr.mono (by decide)) (by rfl) (pa_cons (pe_op op_add (pe_op op_mulA (pe_ix (ix_tupE K) (pv 0) pe_int (fun _ _ => rfl)) (pe_ix (ix_tupE K) (pv 1) pe_int (fun _ _ => rfl))) (pe_op op_mulA (pe_ix (ix_tupE K) (pv 1) pe_int (fun _ _ => rfl)) (pe_ix (ix_tupE K) (pv 0) pe_int (fun _ _ => rfl)))) (pa_cons (pe_op op_mulA (pe_ix (ix_tupE K) (pv 0) pe_int (fun _ _ => rfl)) (pe_ix (ix_tupE K) (pv 1) pe_int (fun _ _ => rfl))) pa_nil))))), ?_⟩
  walk_at "zz"
  repeat (first
    | (walk_at "z")
    | refine z_ixT (SqT.of hp) (v := .int a) rfl ?_
    | refine z_ixT (SqT.of hp) (v := .int b) rfl ?_
    | refine z_ixT (SqT.of hq) (v := .int c) rfl ?_
    | refine z_ixT (SqT.of hq) (v := .int d) rfl ?_
    | refine z_mulA (mulA (by assumption) (by assumption) (by decide) (by decide) (by decide)) ?_)
  exact ⟨_, _, rfl, Int.ne_of_gt (Int.mul_pos b0 d0), pw_mono (pw_mul bb bd) (by decide), k⟩
def spLess : Sp := fun vs H Q _ => ∃ (p q : Addr) (a b c d : Int), vs = [.ref p, .ref q] ∧ H p = some (.tup [.int a, .int b]) ∧ H q = some (.tup [.int c, .int d]) ∧ 0 < b ∧ 0 < d ∧ a.natAbs < 2 ^ 3000 ∧ b.natAbs < 2 ^ 3000 ∧ c.natAbs < 2 ^ 3000 ∧ d.natAbs < 2 ^ 3000 ∧
  ∀ r H', H r = none → Same H H' → H' r = some (.tup [.int (pn (a * d - c * b) (b * d)), .int (pd (a * d - c * b) (b * d))]) → Q (.ref r) H'
theorem ok_less {f : Addr} {fd : FuncData} (F : FnP K "less" s_less f fd) (h_pair : Has P w K mg base 2 "pair" ["num", "den"] (spPair K)) : FnOk P w K mg base CX0 3 f fd ["one", "other"] spLess := by
  refine F.ok sc_less (fun vs H Q E h => ?_) (fun cdv A outer s H vs Q E hr h => ?_)
  · obtain ⟨p, q, a, b, c, d, rfl, _⟩ := h; rfl
  obtain ⟨p, q, a, b, c, d, rfl, hp, hq, b0, d0, ba, bb, bc, bd, k⟩ := h
  refine ⟨_, PSs.nox (pss_one (ps_ret (pe_callH h_pair (hr.mono (by decide)) (by rfl) (pa_cons (pe_op op_sub (pe_op op_mulA (pe_ix (ix_tupE K) (pv 0) pe_int (fun _ _ => rfl)) (pe_ix (ix_tupE K) (pv 1) pe_int (fun _ _ => rfl))) (pe_op op_mulA (pe_ix (ix_tupE K) (pv 1) pe_int (fun _ _ => rfl)) (pe_ix (ix_tupE K) (pv 0) pe_int (fun _ _ => rfl)))) (pa_cons (pe_op op_mulA (pe_ix (ix_tupE K) (pv 0) pe_int (fun _ _ => rfl)) (pe_ix (ix_tupE K) (pv 1) pe_int (fun _ _ => rfl))) pa_nil))))), ?_⟩
  walk_at "zz"
  repeat (first
    | (walk_at "z")
    | refine z_ixT (SqT.of hp) (v := .int a) rfl ?_
    | refine z_ixT (SqT.of hp) (v := .int b) rfl ?_
    | refine z_ixT (SqT.of hq) (v := .int c) rfl ?_
    | refine z_ixT (SqT.of hq) (v := .int d) rfl ?_
    | refine z_mulA (mulA (by assumption) (by assumption) (by decide) (by decide) (by decide)) ?_)
  exact ⟨_, _, rfl, Int.ne_of_gt (Int.mul_pos b0 d0), pw_mono (pw_mul bb bd) (by decide), k⟩
def spTimes : Sp := fun vs H Q _ => ∃ (p q : Addr) (a b c d : Int), vs = [.ref p, .ref q] ∧ H p = some (.tup [.int a, .int b]) ∧ H q = some (.tup [.int c, .int d]) ∧ 0 < b ∧ 0 < d ∧ a.natAbs < 2 ^ 3000 ∧ b.natAbs < 2 ^ 3000 ∧ c.natAbs < 2 ^ 3000 ∧ d.natAbs < 2 ^ 3000 ∧
  ∀ r H', H r = none → Same H H' → H' r = some (.tup [.int (pn (a * c) (b * d)), .int (pd (a * c) (b * d))]) → Q (.ref r) H'
theorem ok_times {f : Addr} {fd : FuncData} (F : FnP K "times" s_times f fd) (h_pair : Has P w K mg base 2 "pair" ["num", "den"] (spPair K)) : FnOk P w K mg base CX0 3 f fd ["one", "other"] spTimes := by
  refine F.ok sc_times (fun vs H Q E h => ?_) (fun cdv A outer s H vs Q E hr h => ?_)
  · obtain ⟨p, q, a, b, c, d, rfl, _⟩ := h; rfl
  obtain ⟨p, q, a, b, c, d, rfl, hp, hq, b0, d0, ba, bb, bc, bd, k⟩ := h
  refine ⟨_, PSs.nox (pss_one (ps_ret (pe_callH h_pair (hr.mono (by decide)) (by rfl) (pa_cons (pe_op op_mulA (pe_ix (ix_tupE K) (pv 0) pe_int (fun _ _ => rfl)) (pe_ix (ix_tupE K) (pv 1) pe_int (fun _ _ => rfl))) (pa_cons (pe_op op_mulA (pe_ix (ix_tupE K) (pv 0) pe_int (fun _ _ => rfl)) (pe_ix (ix_tupE K) (pv 1) pe_int (fun _ _ => rfl))) pa_nil))))), ?_⟩
  walk_at "zz"
  repeat (first
    | (walk_at "z")
    | refine z_ixT (SqT.of hp) (v := .int a) rfl ?_
    | refine z_ixT (SqT.of hp) (v := .int b) rfl ?_
    | refine z_ixT (SqT.of hq) (v := .int c) rfl ?_
    | refine z_ixT (SqT.of hq) (v := .int d) rfl ?_
    | refine z_mulA (mulA (by assumption) (by assumption) (by decide) (by decide) (by decide)) ?_)
  exact ⟨_, _, rfl, Int.ne_of_gt (Int.mul_pos b0 d0), pw_mono (pw_mul bb bd) (by decide), k⟩
def spBelow : Sp := fun vs H Q _ => ∃ (p q : Addr) (a b c d : Int), vs = [.ref p, .ref q] ∧ H p = some (.tup [.int a, .int b]) ∧ H q = some (.tup [.int c, .int d]) ∧ a.natAbs < 2 ^ 3000 ∧ b.natAbs < 2 ^ 3000 ∧ c.natAbs < 2 ^ 3000 ∧ d.natAbs < 2 ^ 3000 ∧ Q (.bl (decide (a * d < c * b))) H
theorem ok_below {f : Addr} {fd : FuncData} (F : FnP K "below" s_below f fd) : FnOk P w K mg base CX0 1 f fd ["one", "other"] spBelow := by
  refine F.ok sc_below (fun vs H Q E h => ?_) (fun cdv A outer s H vs Q E hr h => ?_)
  · obtain ⟨p, q, a, b, c, d, rfl, _⟩ := h; rfl
  obtain ⟨p, q, a, b, c, d, rfl, hp, hq, ba, bb, bc, bd, k⟩ := h
  refine ⟨_, PSs.nox (pss_one (ps_ret (pe_cmpR op_lt (pe_op op_mulA (pe_ix (ix_tupE K) (pv 0) pe_int (fun _ _ => rfl)) (pe_ix (ix_tupE K) (pv 1) pe_int (fun _ _ => rfl))) (pe_op op_mulA (pe_ix (ix_tupE K) (pv 1) pe_int (fun _ _ => rfl)) (pe_ix (ix_tupE K) (pv 0) pe_int (fun _ _ => rfl))) (nomark _)))), ?_⟩
  walk_at "zz"
  repeat (first
    | (walk_at "z")
    | refine z_ixT (SqT.of hp) (v := .int a) rfl ?_
    | refine z_ixT (SqT.of hp) (v := .int b) rfl ?_
    | refine z_ixT (SqT.of hq) (v := .int c) rfl ?_
    | refine z_ixT (SqT.of hq) (v := .int d) rfl ?_
    | refine z_mulA (mulA (by assumption) (by assumption) (by decide) (by decide) (by decide)) ?_)
  exact k
def spNearest : Sp := fun vs H Q _ => ∃ (p : Addr) (a b : Int), vs = [.ref p] ∧ H p = some (.tup [.int a, .int b]) ∧ 0 < b ∧ b.natAbs < 2 ^ 3000 ∧ Q (.int ((2 * a + b).fdiv (2 * b))) H
theorem ok_nearest {f : Addr} {fd : FuncData} (F : FnP K "nearest" s_nearest f fd) : FnOk P w K mg base CX0 1 f fd ["one"] spNearest := by
  refine F.ok sc_nearest (fun vs H Q E h => ?_) (fun cdv A outer s H vs Q E hr h => ?_)
  · obtain ⟨p, a, b, rfl, _⟩ := h; rfl
  obtain ⟨p, a, b, rfl, hp, b0, bb, k⟩ := h
  refine ⟨_, PSs.nox (pss_cons (ps_asg (pv 0) (pg_tup rfl (pgs_cons (pg_name (i := 1) sc_nearest.nd rfl (.inl rfl)) (pgs_cons (pg_name (i := 2) sc_nearest.nd rfl (.inl rfl)) pgs_nil))))
  (pss_one (ps_ret (pe_op op_fdivA (pe_op op_add (pe_op op_mulA pe_int (pv 1)) (pv 2)) (pe_op op_mulA pe_int (pv 2)))))), ?_⟩
  walk_at "zz"
  refine z_gTup (SqT.of hp) rfl ?_
  walk_at "zz"
  refine z_mulA (mulL (by decide)) ?_
  walk_at "zz"
  refine z_mulA (mulL (by decide)) ?_
  walk_at "zz"
  refine z_fdivA (divA (n := 3001) (by omega) ?_ (by decide) (by decide)) k
  rw [Int.natAbs_mul, Nat.pow_succ, Nat.mul_comm]
  exact Nat.mul_lt_mul_of_pos_right bb (by decide)
def spCell (K : PySem.W.Frag) : Sp := fun vs H Q _ => ∃ (a : Addr) (ns : List Int) (k : Nat), vs = [.ref a, .int (k : Int)] ∧ SqL K H a (ns.map V.int) ∧ ns.length ≤ 63 ∧ ∀ c : Int, Q (.int c) H
theorem ok__law_cell_at {f : Addr} {fd : FuncData} (F : FnP K "_law_cell_at" s__law_cell_at f fd) (m_len : mg "len" = none) : FnOk P w K mg base CX0 1 f fd ["_law_script", "_law_k"] (spCell K) := by
  refine F.ok sc__law_cell_at (fun vs H Q E h => ?_) (fun cdv A outer s H vs Q E hr h => ?_)
  · obtain ⟨a, ns, k, rfl, _⟩ := h; rfl
  obtain ⟨a, ns, k, rfl, hS, hl, q⟩ := h
  refine ⟨_, PSs.nox (pss_cons (ps_if (pt_cmpR op_lt (pv 1) (pe_callB (call_lenE K) (by rfl) m_len (by decide +kernel) (pa_cons (pv 0) pa_nil)) (nomark _))
    (pss_one (ps_ret (pe_ix (ix_listE K) (pv 0) (pv 1) (fun _ _ => rfl))))
    pss_nil)
  (pss_one (ps_ret pe_int))), ?_⟩
  walk_at "zz"
  refine z_lenL hS ?_
  rw [List.length_map]
  walk_at "zz"
  refine z_ite (fun h => ?_) (fun h => ?_)
  · walk_at "zz"
    have h1 : k < ns.length := by omega
    refine z_ixL hS (v := .int ns[k]) (atI_nat ?_) ?_
    · rw [List.getElem?_map, List.getElem?_eq_getElem h1]
      rfl
    · exact q _
  · walk_at "zz"
    exact q _
def spBegin (K : PySem.W.Frag) : Sp := fun vs H Q _ => ∃ c : Int, vs = [.int c] ∧ ∀ p H', H p = none → Same H H' → Src H' p → Q (.ref p) H'
theorem ok__law_begin {f : Addr} {fd : FuncData} (F : FnP K "_law_begin" s__law_begin f fd) (m_int : mg "int" = none) : FnOk P w K mg base CX0 1 f fd ["_law_cell"] (spBegin K) := by
  refine F.ok sc__law_begin (fun vs H Q E h => ?_) (fun cdv A outer s H vs Q E hr h => ?_)
  · obtain ⟨c, rfl, _⟩ := h; rfl
  obtain ⟨c, rfl, q⟩ := h
  refine ⟨_, PSs.nox (pss_one (ps_ret (pe_lst (pa_cons (pe_ix (ix_listE K) (pe_lst (pa_cons pe_int (pa_cons (pv 0) pa_nil))) (pe_callTy call_intE (by rfl) m_int (by decide +kernel) (pa_cons (pe_cmpR op_ge (pv 0) (pe_op op_pow pe_int pe_int) (nomark _)) pa_nil)) (fun _ _ => rfl)) (pa_cons (pe_op op_modN (pv 0) pe_int) (pa_cons pe_int pa_nil)))))), ?_⟩
  walk_at "zz"
  refine z_new (by simp) (fun p1 H1 n1 s1 h1 => ?_)
  walk_at "zz"
  obtain ⟨x, hx⟩ : ∃ x : Int, atI [V.int 0, V.int c] (if decide (((10 : Int) ^ Int.toNat 18) ≤ c) = true then 1 else 0) = some (.int x) := by
    by_cases h : ((10 : Int) ^ Int.toNat 18) ≤ c
    · exact ⟨c, by rw [decide_eq_true h]; rfl⟩
    · exact ⟨0, by rw [decide_eq_false h]; rfl⟩
  refine z_ixL (SqL.of h1) hx ?_
  walk_at "zz"
  refine z_new (by simp) (fun p2 H2 n2 s2 h2 => ?_)
  exact q p2 H2 (s1.free n2) (s1.trans s2) ⟨_, _, _, h2⟩
def spDraw : Sp := fun vs H Q _ => ∃ (s : Addr) (m : Int), vs = [.ref s, .int m] ∧ 0 < m ∧ m.natAbs < 2 ^ 8000 ∧ Src H s ∧ ∀ (r : Int) H', 0 ≤ r → r < m → Dr s H H' → Q (.int r) H'
theorem ok__law_draw {f : Addr} {fd : FuncData} (F : FnP K "_law_draw" s__law_draw f fd) : FnOk P w K mg base CX0 1 f fd ["_law_source", "_law_most"] spDraw := by
  refine F.ok sc__law_draw (fun vs H Q E h => ?_) (fun cdv A outer s H vs Q E hr h => ?_)
  · obtain ⟨s, m, rfl, _⟩ := h; rfl
  obtain ⟨s, m, rfl, h0, hm, ⟨a, b, c, hs⟩, q⟩ := h
  refine ⟨_, PSs.nox (pss_cons (ps_if (pt_cmpR op_gt (pe_ix (ix_listE K) (pv 0) pe_int (fun _ _ => rfl)) pe_int (nomark _))
    (pss_cons (ps_set (i := 2) sc__law_draw.nd rfl (.inl rfl) (pe_op op_modN (pe_ix (ix_listE K) (pv 0) pe_int (fun _ _ => rfl)) (pv 1)))
  (pss_cons (ps_asg (pe_op op_fdivA (pe_ix (ix_listE K) (pv 0) pe_int (fun _ _ => rfl)) (pv 1)) (pg_sub (pv 0) pe_int set_list))
  (pss_one (ps_ret (pv 2)))))
    pss_nil)
  (pss_cons (ps_asg (pe_op op_add (pe_ix (ix_listE K) (pv 0) pe_int (fun _ _ => rfl)) pe_int) (pg_sub (pv 0) pe_int set_list))
  (pss_cons (ps_set (i := 3) sc__law_draw.nd rfl (.inl rfl) (pe_op op_modN (pe_op op_mulA (pe_op op_add (pe_op op_add (pe_ix (ix_listE K) (pv 0) pe_int (fun _ _ => rfl)) (pe_op op_mulA pe_int (pe_ix (ix_listE K) (pv 0) pe_int (fun _ _ => rfl)))) pe_int) pe_int) pe_int))
  (pss_cons (ps_set (i := 3) sc__law_draw.nd rfl (.inl rfl) (pe_op op_modN (pe_op op_mulA (pv 3) (pe_op op_add (pe_op op_fdivA (pv 3) pe_int) pe_int)) pe_int))
  (pss_one (ps_ret (pe_op op_modN (pe_op op_modN (pe_op op_mulA (pv 3) (pe_op op_add (pe_op op_fdivA (pv 3) pe_int) pe_int)) pe_int) (pv 1)))))))), ?_⟩
  have md : ∀ x : Int, CDivA x m := fun x => divA (n := 8000) (by omega) hm (by decide) (by decide)
  have dr : ∀ {H' : Hp} {x y z : Int}, H' = upd H s (.lst [.int x, .int y, .int z]) → Dr s H H' := fun {H' x y z} e => by
    rw [e]
    exact ⟨fun u o n h => by rw [upd_ne n]; exact h, ⟨_, _, _, upd_same⟩, ⟨_, _, _, hs⟩⟩
  walk_at "zz"
  refine z_ixL (SqL.of hs) (v := .int a) rfl ?_
  walk_at "zz"
  refine z_ite (fun h => ?_) (fun h => ?_)
  · walk_at "zz"
    refine z_ixL (SqL.of hs) (v := .int a) rfl ?_
    walk_at "zz"
    refine z_ixL (SqL.of hs) (v := .int a) rfl ?_
    walk_at "zz"
    refine z_fdivA (md _) ?_
    walk_at "zz"
    refine z_setL hs (j := 0) rfl ?_
    walk_at "zz"
    exact q _ _ (Int.fmod_nonneg_of_pos _ h0) (Int.fmod_lt_of_pos _ h0) (dr rfl)
  · walk_at "zz"
    refine z_ixL (SqL.of hs) (v := .int c) rfl ?_
    walk_at "zz"
    refine z_setL hs (j := 2) rfl ?_
    have hs2 : (upd H s (.lst ([V.int a, V.int b, V.int c].set 2 (.int (c + 1))))) s = some (.lst [.int a, .int b, .int (c + 1)]) := upd_same
    walk_at "zz"
    refine z_ixL (SqL.of hs2) (v := .int b) rfl ?_
    walk_at "zz"
    refine z_ixL (SqL.of hs2) (v := .int (c + 1)) rfl ?_
    refine z_mulA (mulL (by decide)) ?_
    walk_at "zz"
    refine z_mulA (mulR (by decide)) ?_
    walk_at "zz"
    generalize hn : ((b + 7919 * (c + 1) + 1) * 48271).fmod 2147483647 = n
    have n0 : 0 ≤ n := by rw [← hn]; exact Int.fmod_nonneg_of_pos _ (by decide)
    have n1 : n < 2147483647 := by rw [← hn]; exact Int.fmod_lt_of_pos _ (by decide)
    refine z_fdivA ⟨by decide, by decide +kernel⟩ ?_
    walk_at "zz"
    refine z_mulA (mulL ⟨by omega, by omega⟩) ?_
    walk_at "zz"
    generalize hk : (n * (n.fdiv 1009 + 69621)).fmod 2147483647 = k
    have k0 : 0 ≤ k := by rw [← hk]; exact Int.fmod_nonneg_of_pos _ (by decide)
    have k1 : k < 2147483647 := by rw [← hk]; exact Int.fmod_lt_of_pos _ (by decide)
    refine z_fdivA ⟨by decide, by decide +kernel⟩ ?_
    walk_at "zz"
    refine z_mulA (mulL ⟨by omega, by omega⟩) ?_
    walk_at "zz"
    exact q _ _ (Int.fmod_nonneg_of_pos _ h0) (Int.fmod_lt_of_pos _ h0) (dr rfl)
def spFar : Sp := fun vs H Q _ => ∃ s : Addr, vs = [.ref s] ∧ Src H s ∧ ∀ (n : Int) H', n.natAbs < 2 ^ 200 → Dr s H H' → Q (.int n) H'
theorem ok__law_far {f : Addr} {fd : FuncData} (F : FnP K "_law_far" s__law_far f fd) (m_range : mg "range" = none) (h__law_draw : Has P w K mg base 1 "_law_draw" ["_law_source", "_law_most"] spDraw) : FnOk P w K mg base CX0 2 f fd ["_law_source"] spFar := by
  refine F.ok sc__law_far (fun vs H Q E h => ?_) (fun cdv A outer s H vs Q E hr h => ?_)
  · obtain ⟨s, rfl, _⟩ := h; rfl
  obtain ⟨s, rfl, hs, q⟩ := h
  refine ⟨_, PSs.nox (pss_cons (ps_set (i := 1) sc__law_far.nd rfl (.inl rfl) (pe_callH h__law_draw (hr.mono (by decide)) (by rfl) (pa_cons (pv 0) (pa_cons pe_int pa_nil))))
  (pss_cons (ps_set (i := 2) sc__law_far.nd rfl (.inl rfl) (pe_op op_sub (pe_callH h__law_draw (hr.mono (by decide)) (by rfl) (pa_cons (pv 0) (pa_cons pe_int pa_nil))) pe_int))
  (pss_cons (ps_set (i := 3) sc__law_far.nd rfl (.inl rfl) pe_int)
  (pss_cons (ps_for PassesOwn.never rfl (pi_range1 (by rfl) m_range (pa_cons (pe_op op_add pe_int (pe_callH h__law_draw (hr.mono (by decide)) (by rfl) (pa_cons (pv 0) (pa_cons pe_int pa_nil)))) pa_nil)) (pg_name (i := 4) sc__law_far.nd rfl (.inl rfl))
    (pss_one (ps_set (i := 3) sc__law_far.nd rfl (.inl rfl) (pe_op op_add (pe_op op_mulA (pv 3) (pe_op op_pow pe_int pe_int)) (pe_callH h__law_draw (hr.mono (by decide)) (by rfl) (pa_cons (pv 0) (pa_cons (pe_op op_pow pe_int pe_int) pa_nil)))))))
  (pss_cons (ps_set (i := 5) sc__law_far.nd rfl (.inl rfl) (pe_op op_sub (pe_op op_add (pe_op op_shlA pe_int (pe_callH h__law_draw (hr.mono (by decide)) (by rfl) (pa_cons (pv 0) (pa_cons pe_int pa_nil)))) (pe_callH h__law_draw (hr.mono (by decide)) (by rfl) (pa_cons (pv 0) (pa_cons pe_int pa_nil)))) pe_int))
  (pss_one (ps_ret (pe_ix (ix_listE K) (pe_lst (pa_cons (pv 2) (pa_cons (pv 2) (pa_cons (pv 3) (pa_cons (pe_op op_sub pe_int (pv 3)) (pa_cons (pv 5) (pa_cons (pe_op op_sub pe_int (pv 5)) pa_nil))))))) (pv 1) (fun _ _ => rfl))))))))), ?_⟩
  walk_at "zz"
  refine ⟨s, _, rfl, by decide, by decide +kernel, hs, fun way H1 w0 w1 d1 => ?_⟩
  walk_at "zz"
  refine ⟨s, _, rfl, by decide, by decide +kernel, d1.src, fun small H2 s0 s1 d2 => ?_⟩
  walk_at "zz"
  refine ⟨s, _, rfl, by decide, by decide +kernel, d2.src, fun many H3 m0 m1 d3 => ?_⟩
  walk_at "zz"
  refine ⟨_, rfl, by omega, by omega, for_range (lo := 0) (n := (1 + many).toNat) (fun i σ H' => ∃ (great : Int) (k : Option V), σ = [some (.ref s), some (.int way), some (.int (small - 6)), some (.int great), k, none] ∧ Dr s H H' ∧ 0 ≤ great ∧ great < 10000000000 ^ i) ⟨0, none, rfl, (d1.trans d2).trans d3, by decide, by decide⟩ ?_ ?_⟩
  · rintro i σ H4 hi ⟨great, k, rfl, d4, g0, g1⟩
    walk_at "zz"
    refine z_mulA (mulR (by decide)) ?_
    walk_at "zz"
    refine ⟨s, _, rfl, by decide, by decide +kernel, d4.src, fun x H5 x0 x1 d5 => ?_⟩
    walk_at "zz"
    have e : (10 : Int) ^ Int.toNat 10 = 10000000000 := by decide
    rw [e] at x1 ⊢
    refine ⟨great * 10000000000 + x, _, rfl, d4.trans d5, by omega, ?_⟩
    rw [Int.pow_succ]
    omega
  · rintro σ H4 ⟨great, k, rfl, d4, g0, g1⟩
    walk_at "zz"
    refine ⟨s, _, rfl, by decide, by decide +kernel, d4.src, fun x H5 x0 x1 d5 => ?_⟩
    obtain ⟨xn, rfl⟩ : ∃ xn : Nat, x = (xn : Int) := ⟨x.toNat, by omega⟩
    refine z_shlA (shl_ok (n := 1) (by decide) (by omega)) ?_
    walk_at "zz"
    refine ⟨s, _, rfl, by decide, by decide +kernel, d5.src, fun y H6 y0 y1 d6 => ?_⟩
    walk_at "zz"
    refine z_new (by simp) (fun p H7 np sm hp => ?_)
    walk_at "zz"
    have gb : great < 10000000000 ^ 6 := Int.lt_of_lt_of_le g1 (ipow_le (c := 10000000000) (by decide) (by omega))
    have e6 : (10000000000 : Int) ^ 6 = 10 ^ 60 := by decide
    have p1 : (2 : Int) ^ (Int.toNat (xn : Int)) ≤ 2 ^ 199 := by
      rw [Int.toNat_natCast]
      exact ipow_le (c := 2) (by decide) (by omega)
    have p0 : (0 : Int) < 2 ^ (Int.toNat (xn : Int)) := Int.pow_pos (by decide)
    have e199 : (2 : Int) ^ 199 * 2 = ((2 ^ 200 : Nat) : Int) := by decide
    have e60 : (10 : Int) ^ 60 < ((2 ^ 200 : Nat) : Int) := by decide
    have b : ∀ n : Int, -((2 ^ 200 : Nat) : Int) < n → n < ((2 ^ 200 : Nat) : Int) → n.natAbs < 2 ^ 200 := fun n h1 h2 => by omega
    have dd : Dr s H H7 := (d4.trans d5).trans (d6.trans (Dr.of_same d6.src sm))
    have e200 : (8 : Int) < 2 ^ 199 := by decide
    generalize hX : (2 : Int) ^ (Int.toNat (xn : Int)) = X at *
    generalize hZ : ((2 ^ 200 : Nat) : Int) = Z at *
    generalize hY : (2 : Int) ^ 199 = Y at *
    rcases (show way = 0 ∨ way = 1 ∨ way = 2 ∨ way = 3 ∨ way = 4 ∨ way = 5 by omega) with rfl | rfl | rfl | rfl | rfl | rfl
    · exact z_ixL (SqL.of hp) (v := .int (small - 6)) rfl (q _ _ (b _ (by omega) (by omega)) dd)
    · exact z_ixL (SqL.of hp) (v := .int (small - 6)) rfl (q _ _ (b _ (by omega) (by omega)) dd)
    · exact z_ixL (SqL.of hp) (v := .int great) rfl (q _ _ (b _ (by omega) (by omega)) dd)
    · exact z_ixL (SqL.of hp) (v := .int (0 - great)) rfl (q _ _ (b _ (by omega) (by omega)) dd)
    · exact z_ixL (SqL.of hp) (v := .int (1 * X + y - 1)) rfl (q _ _ (b _ (by omega) (by omega)) dd)
    · exact z_ixL (SqL.of hp) (v := .int (0 - (1 * X + y - 1))) rfl (q _ _ (b _ (by omega) (by omega)) dd)
/-- a pair in lowest terms of a worth -/
structure Wo (x y N D : Int) : Prop where
  low : Low x y
  e : x * D = N * y
  dp : 0 < D
theorem wo_self {x y : Int} (h : Low x y) : Wo x y x y := ⟨h, rfl, h.pos⟩
theorem wo_eq {x y N D x' y' N' D' : Int} (h : Wo x y N D) (h' : Wo x' y' N' D') (e : N * D' = N' * D) : x = x' ∧ y = y' := by
  refine low_eq h.low h'.low ?_
  have h1 := h.e
  have h2 := h'.e
  have d1 := h.dp
  have d2 := h'.dp
  have z : (x * y') * (D * D') = (x' * y) * (D * D') := by grind
  exact Int.eq_of_mul_eq_mul_right (Int.ne_of_gt (Int.mul_pos d1 d2)) z
theorem wo_mk {x y N D x' y' N' D' n d R : Int} (h : Wo x y N D) (h' : Wo x' y' N' D') (hd : d = y * y') (en : n * (D * D') = R * (y * y')) : Wo (pn n d) (pd n d) R (D * D') := by
  have y0 := h.low.pos
  have y1 := h'.low.pos
  have d0 : d ≠ 0 := by
    rw [hd]
    exact Int.ne_of_gt (Int.mul_pos y0 y1)
  refine ⟨low_pair d0, ?_, Int.mul_pos h.dp h'.dp⟩
  have c := pr_cross n d
  have z : (pn n d * (D * D')) * d = (R * pd n d) * d := by grind
  exact Int.eq_of_mul_eq_mul_right d0 z
theorem wo_plus {x y N D x' y' N' D' : Int} (h : Wo x y N D) (h' : Wo x' y' N' D') : Wo (pn (x * y' + x' * y) (y * y')) (pd (x * y' + x' * y) (y * y')) (N * D' + N' * D) (D * D') := wo_mk h h' rfl (by
  have h1 := h.e
  have h2 := h'.e
  grind)
theorem wo_less {x y N D x' y' N' D' : Int} (h : Wo x y N D) (h' : Wo x' y' N' D') : Wo (pn (x * y' - x' * y) (y * y')) (pd (x * y' - x' * y) (y * y')) (N * D' - N' * D) (D * D') := wo_mk h h' rfl (by
  have h1 := h.e
  have h2 := h'.e
  grind)
theorem wo_times {x y N D x' y' N' D' : Int} (h : Wo x y N D) (h' : Wo x' y' N' D') : Wo (pn (x * x') (y * y')) (pd (x * x') (y * y')) (N * N') (D * D') := wo_mk h h' rfl (by
  have h1 := h.e
  have h2 := h'.e
  grind)
structure At (H : Hp) (p : Addr) (x y N D : Int) (m : Nat) : Prop where
  h : H p = some (.tup [.int x, .int y])
  w : Wo x y N D
  bx : x.natAbs < 2 ^ m
  bY : y.natAbs < 2 ^ m
theorem At.same {H H' : Hp} {p : Addr} {x y N D : Int} {m : Nat} (e : Same H H') (a : At H p x y N D m) : At H' p x y N D m := ⟨e _ _ a.h, a.w, a.bx, a.bY⟩
section
variable {H : Hp} {Q : VK} {p p' : Addr} {x y N D x' y' N' D' : Int} {m m' : Nat}
theorem use_plus (a : At H p x y N D m) (a' : At H p' x' y' N' D' m') (hm : m + m' + 1 ≤ 3000) (k : ∀ r H' u v, Same H H' → At H' r u v (N * D' + N' * D) (D * D') (m + m' + 1) → Q (.ref r) H') : spPlus [.ref p, .ref p'] H Q E0 :=
  ⟨p, p', x, y, x', y', rfl, a.h, a'.h, a.w.low.pos, a'.w.low.pos, pw_mono a.bx (by omega), pw_mono a.bY (by omega), pw_mono a'.bx (by omega), pw_mono a'.bY (by omega), fun r H' _ e hr => k r H' _ _ e
    ⟨hr, wo_plus a.w a'.w, Nat.lt_of_le_of_lt (pn_le (Int.ne_of_gt (Int.mul_pos a.w.low.pos a'.w.low.pos))) (pw_add (pw_mul a.bx a'.bY) (by rw [Nat.add_comm m m']; exact pw_mul a'.bx a.bY)), Nat.lt_of_le_of_lt (pd_le (Int.ne_of_gt (Int.mul_pos a.w.low.pos a'.w.low.pos))) (pw_mono (pw_mul a.bY a'.bY) (by omega))⟩⟩
theorem use_less (a : At H p x y N D m) (a' : At H p' x' y' N' D' m') (hm : m + m' + 1 ≤ 3000) (k : ∀ r H' u v, Same H H' → At H' r u v (N * D' - N' * D) (D * D') (m + m' + 1) → Q (.ref r) H') : spLess [.ref p, .ref p'] H Q E0 :=
  ⟨p, p', x, y, x', y', rfl, a.h, a'.h, a.w.low.pos, a'.w.low.pos, pw_mono a.bx (by omega), pw_mono a.bY (by omega), pw_mono a'.bx (by omega), pw_mono a'.bY (by omega), fun r H' _ e hr => k r H' _ _ e
    ⟨hr, wo_less a.w a'.w, Nat.lt_of_le_of_lt (pn_le (Int.ne_of_gt (Int.mul_pos a.w.low.pos a'.w.low.pos))) (pw_sub (pw_mul a.bx a'.bY) (by rw [Nat.add_comm m m']; exact pw_mul a'.bx a.bY)), Nat.lt_of_le_of_lt (pd_le (Int.ne_of_gt (Int.mul_pos a.w.low.pos a'.w.low.pos))) (pw_mono (pw_mul a.bY a'.bY) (by omega))⟩⟩
theorem use_times (a : At H p x y N D m) (a' : At H p' x' y' N' D' m') (hm : m + m' + 1 ≤ 3000) (k : ∀ r H' u v, Same H H' → At H' r u v (N * N') (D * D') (m + m' + 1) → Q (.ref r) H') : spTimes [.ref p, .ref p'] H Q E0 :=
  ⟨p, p', x, y, x', y', rfl, a.h, a'.h, a.w.low.pos, a'.w.low.pos, pw_mono a.bx (by omega), pw_mono a.bY (by omega), pw_mono a'.bx (by omega), pw_mono a'.bY (by omega), fun r H' _ e hr => k r H' _ _ e
    ⟨hr, wo_times a.w a'.w, Nat.lt_of_le_of_lt (pn_le (Int.ne_of_gt (Int.mul_pos a.w.low.pos a'.w.low.pos))) (pw_mono (pw_mul a.bx a'.bx) (by omega)), Nat.lt_of_le_of_lt (pd_le (Int.ne_of_gt (Int.mul_pos a.w.low.pos a'.w.low.pos))) (pw_mono (pw_mul a.bY a'.bY) (by omega))⟩⟩
theorem lt_iff {x y N D x' y' N' D' : Int} (h : Wo x y N D) (h' : Wo x' y' N' D') : x * y' < x' * y ↔ N * D' < N' * D := by
  have h1 := h.e
  have h2 := h'.e
  have y0 := h.low.pos
  have y1 := h'.low.pos
  have d0 := h.dp
  have d1 := h'.dp
  have e1 : (x * y') * (D * D') = (N * D') * (y * y') := by grind
  have e2 : (x' * y) * (D * D') = (N' * D) * (y * y') := by grind
  constructor
  · intro l
    have := Int.mul_lt_mul_of_pos_right l (Int.mul_pos d0 d1)
    rw [e1, e2] at this
    exact Int.lt_of_mul_lt_mul_right this (Int.le_of_lt (Int.mul_pos y0 y1))
  · intro l
    have := Int.mul_lt_mul_of_pos_right l (Int.mul_pos y0 y1)
    rw [← e1, ← e2] at this
    exact Int.lt_of_mul_lt_mul_right this (Int.le_of_lt (Int.mul_pos d0 d1))
theorem use_below (a : At H p x y N D m) (a' : At H p' x' y' N' D' m') (hm : m + m' + 1 ≤ 3000) (k : Q (.bl (decide (N * D' < N' * D))) H) : spBelow [.ref p, .ref p'] H Q E0 :=
  ⟨p, p', x, y, x', y', rfl, a.h, a'.h, pw_mono a.bx (by omega), pw_mono a.bY (by omega), pw_mono a'.bx (by omega), pw_mono a'.bY (by omega), bool_bl (decide_eq_decide.mpr (lt_iff a.w a'.w)) k⟩
theorem use_ne {K : PySem.W.Frag} (a : At H p x y N D m) (a' : At H p' x' y' N' D' m') (e : N * D' = N' * D) (k : Q (.bl false) H) : rNeD K (.ref p) (.ref p') H Q :=
  z_neD (dpPair a.h) (dpPair a'.h) (shPair _ _) (shPair _ _) (k := true) (eqvPair_of (wo_eq a.w a'.w e).1 (wo_eq a.w a'.w e).2) k
end
theorem near_le {a b f : Int} (b0 : 0 < b) (hf : f = (2 * a + b).fdiv (2 * b)) : (2 * b * f ≤ 2 * a + b ∧ 2 * a + b < 2 * b * f + 2 * b) ∧ f.natAbs ≤ (2 * a + b).natAbs + 1 := by
  have h2 : (0 : Int) < 2 * b := by omega
  have e := Int.mul_fdiv_add_fmod (2 * a + b) (2 * b)
  have m0 := Int.fmod_nonneg_of_pos (2 * a + b) h2
  have m1 := Int.fmod_lt_of_pos (2 * a + b) h2
  rw [← hf] at e
  refine ⟨by omega, ?_⟩
  rcases (show 0 ≤ f ∨ f < 0 by omega) with h | h
  · have : 1 * f ≤ 2 * b * f := Int.mul_le_mul_of_nonneg_right (by omega) h
    omega
  · have : 2 * b * (f + 1) ≤ 1 * (f + 1) := Int.mul_le_mul_of_nonpos_right (by omega) (by omega)
    rw [Int.mul_add] at this
    omega
theorem less_trans {a b c d e f : Int} (hb : 0 < b) (hd : 0 < d) (hf : 0 < f) (h1 : a * d < c * b) (h2 : c * f < e * d) : a * f < e * b := by
  have x1 := Int.mul_lt_mul_of_pos_right h1 hf
  have x2 := Int.mul_lt_mul_of_pos_right h2 hb
  refine Int.lt_of_mul_lt_mul_right (a := d) ?_ (Int.le_of_lt hd)
  have e1 : a * f * d = a * d * f := by grind
  have e2 : c * b * f = c * f * b := by grind
  have e3 : e * b * d = e * d * b := by grind
  omega
theorem low_f1 (f : Int) : Low f 1 := ⟨by decide, by rw [show Int.natAbs 1 = 1 from rfl, Nat.gcd_one_right]⟩
def spRight : Sp := fun vs H Q _ => ∃ (p q r : Addr) (a b c d e f : Int), vs = [.ref p, .ref q, .ref r] ∧ At H p a b a b 200 ∧ At H q c d c d 200 ∧ At H r e f e f 200 ∧ ∀ H', Same H H' → Q (.bl true) H'
theorem ok__law_right {f : Addr} {fd : FuncData} (F : FnP K "_law_right" s__law_right f fd) (h_plus : Has P w K mg base 3 "plus" ["one", "other"] spPlus) (h_less : Has P w K mg base 3 "less" ["one", "other"] spLess)
    (h_times : Has P w K mg base 3 "times" ["one", "other"] spTimes) (h_below : Has P w K mg base 1 "below" ["one", "other"] spBelow) (h_nearest : Has P w K mg base 1 "nearest" ["one"] spNearest) : FnOk P w K mg base CX0 4 f fd ["_law_a", "_law_b", "_law_c"] spRight := by
  refine F.ok sc__law_right (fun vs H Q E h => ?_) (fun cdv A outer s H vs Q E hr h => ?_)
  · obtain ⟨p, q, r, a, b, c, d, e, f, rfl, _⟩ := h; rfl
  obtain ⟨p, q, r, a, b, c, d, e, f, rfl, ha, hb, hc, k⟩ := h
  refine ⟨_, PSs.nox (pss_cons (ps_if (PW.pt (pw_or (pt_cmpR (op_neDE K hr.units) (pe_callH h_plus (hr.mono (by decide)) (by rfl) (pa_cons (pv 0) (pa_cons (pv 1) pa_nil))) (pe_callH h_plus (hr.mono (by decide)) (by rfl) (pa_cons (pv 1) (pa_cons (pv 0) pa_nil))) (nomark _)) (pw_or (pt_cmpR (op_neDE K hr.units) (pe_callH h_times (hr.mono (by decide)) (by rfl) (pa_cons (pv 0) (pa_cons (pv 1) pa_nil))) (pe_callH h_times (hr.mono (by decide)) (by rfl) (pa_cons (pv 1) (pa_cons (pv 0) pa_nil))) (nomark _)) (pw_or1 (pt_cmpR (op_neDE K hr.units) (pe_callH h_plus (hr.mono (by decide)) (by rfl) (pa_cons (pe_callH h_plus (hr.mono (by decide)) (by rfl) (pa_cons (pv 0) (pa_cons (pv 1) pa_nil))) (pa_cons (pv 2) pa_nil))) (pe_callH h_plus (hr.mono (by decide)) (by rfl) (pa_cons (pv 0) (pa_cons (pe_callH h_plus (hr.mono (by decide)) (by rfl) (pa_cons (pv 1) (pa_cons (pv 2) pa_nil))) pa_nil))) (nomark _))))))
    (pss_one (ps_ret pe_bl))
    pss_nil)
  (pss_cons (ps_if (PW.pt (pw_or (pt_cmpR (op_neDE K hr.units) (pe_callH h_times (hr.mono (by decide)) (by rfl) (pa_cons (pe_callH h_times (hr.mono (by decide)) (by rfl) (pa_cons (pv 0) (pa_cons (pv 1) pa_nil))) (pa_cons (pv 2) pa_nil))) (pe_callH h_times (hr.mono (by decide)) (by rfl) (pa_cons (pv 0) (pa_cons (pe_callH h_times (hr.mono (by decide)) (by rfl) (pa_cons (pv 1) (pa_cons (pv 2) pa_nil))) pa_nil))) (nomark _)) (pw_or1 (pt_cmpR (op_neDE K hr.units) (pe_callH h_times (hr.mono (by decide)) (by rfl) (pa_cons (pv 0) (pa_cons (pe_callH h_plus (hr.mono (by decide)) (by rfl) (pa_cons (pv 1) (pa_cons (pv 2) pa_nil))) pa_nil))) (pe_callH h_plus (hr.mono (by decide)) (by rfl) (pa_cons (pe_callH h_times (hr.mono (by decide)) (by rfl) (pa_cons (pv 0) (pa_cons (pv 1) pa_nil))) (pa_cons (pe_callH h_times (hr.mono (by decide)) (by rfl) (pa_cons (pv 0) (pa_cons (pv 2) pa_nil))) pa_nil))) (nomark _)))))
    (pss_one (ps_ret pe_bl))
    pss_nil)
  (pss_cons (ps_if (PW.pt (pw_or (pt_cmpR (op_neDE K hr.units) (pe_callH h_less (hr.mono (by decide)) (by rfl) (pa_cons (pe_callH h_plus (hr.mono (by decide)) (by rfl) (pa_cons (pv 0) (pa_cons (pv 1) pa_nil))) (pa_cons (pv 1) pa_nil))) (pv 0) (nomark _)) (pw_or (pt_cmpR (op_neDE K hr.units) (pe_callH h_plus (hr.mono (by decide)) (by rfl) (pa_cons (pe_callH h_less (hr.mono (by decide)) (by rfl) (pa_cons (pv 0) (pa_cons (pv 1) pa_nil))) (pa_cons (pv 1) pa_nil))) (pv 0) (nomark _)) (pw_or (pt_cmpR (op_neDE K hr.units) (pe_callH h_less (hr.mono (by decide)) (by rfl) (pa_cons (pv 0) (pa_cons (pv 0) pa_nil))) (pe_tup (pa_cons pe_int (pa_cons pe_int pa_nil))) (nomark _)) (pw_or1 (pt_cmpR (op_neDE K hr.units) (pe_callH h_times (hr.mono (by decide)) (by rfl) (pa_cons (pv 0) (pa_cons (pe_tup (pa_cons pe_int (pa_cons pe_int pa_nil))) pa_nil))) (pv 0) (nomark _)))))))
    (pss_one (ps_ret pe_bl))
    pss_nil)
  (pss_cons (ps_if (PW.pt (pw_or (pt_cmpR op_ne (pe_callH h_below (hr.mono (by decide)) (by rfl) (pa_cons (pv 0) (pa_cons (pv 1) pa_nil))) (pe_callH h_below (hr.mono (by decide)) (by rfl) (pa_cons (pe_callH h_less (hr.mono (by decide)) (by rfl) (pa_cons (pv 0) (pa_cons (pv 1) pa_nil))) (pa_cons (pe_tup (pa_cons pe_int (pa_cons pe_int pa_nil))) pa_nil))) (nomark _)) (pw_or (pt_val (pe_callH h_below (hr.mono (by decide)) (by rfl) (pa_cons (pv 0) (pa_cons (pv 0) pa_nil)))) (pw_or1 (PW.pt (pw_and (pt_val (pe_callH h_below (hr.mono (by decide)) (by rfl) (pa_cons (pv 0) (pa_cons (pv 1) pa_nil)))) (pw_and1 (pt_val (pe_callH h_below (hr.mono (by decide)) (by rfl) (pa_cons (pv 1) (pa_cons (pv 0) pa_nil)))))))))))
    (pss_one (ps_ret pe_bl))
    pss_nil)
  (pss_cons (ps_if (PW.pt (pw_or (PW.pt (pw_and (pt_cmpR (op_neDE K hr.units) (pv 0) (pv 1) (nomark _)) (pw_and (pt_not (pt_val (pe_callH h_below (hr.mono (by decide)) (by rfl) (pa_cons (pv 0) (pa_cons (pv 1) pa_nil))))) (pw_and1 (pt_not (pt_val (pe_callH h_below (hr.mono (by decide)) (by rfl) (pa_cons (pv 1) (pa_cons (pv 0) pa_nil))))))))) (pw_or1 (PW.pt (pw_and (pt_val (pe_callH h_below (hr.mono (by decide)) (by rfl) (pa_cons (pv 0) (pa_cons (pv 1) pa_nil)))) (pw_and (pt_val (pe_callH h_below (hr.mono (by decide)) (by rfl) (pa_cons (pv 1) (pa_cons (pv 2) pa_nil)))) (pw_and1 (pt_not (pt_val (pe_callH h_below (hr.mono (by decide)) (by rfl) (pa_cons (pv 0) (pa_cons (pv 2) pa_nil))))))))))))
    (pss_one (ps_ret pe_bl))
    pss_nil)
  (pss_cons (ps_set (i := 3) sc__law_right.nd rfl (.inl rfl) (pe_callH h_less (hr.mono (by decide)) (by rfl) (pa_cons (pe_tup (pa_cons (pe_callH h_nearest (hr.mono (by decide)) (by rfl) (pa_cons (pv 0) pa_nil)) (pa_cons pe_int pa_nil))) (pa_cons (pv 0) pa_nil))))
  (pss_one (ps_ret (pe_and (pe_not (pe_callH h_below (hr.mono (by decide)) (by rfl) (pa_cons (pe_tup (pa_cons pe_int (pa_cons pe_int pa_nil))) (pa_cons (pv 3) pa_nil)))) (pe_one (pe_callH h_below (hr.mono (by decide)) (by rfl) (pa_cons (pe_tup (pa_cons (pe_un un_neg pe_int) (pa_cons pe_int pa_nil))) (pa_cons (pv 3) pa_nil))))))))))))), ?_⟩
  have b0 := ha.w.dp
  have d0 := hb.w.dp
  have f0 := hc.w.dp
  walk_at "zz"
  refine use_plus ha hb (by decide) (fun r1 H1 u1 v1 e1 a1 => ?_)
  have s1 : Same H H1 := e1
  walk_at "zz"
  refine use_plus (hb.same s1) (ha.same s1) (by decide) (fun r2 H2 u2 v2 e2 a2 => ?_)
  have s2 : Same H H2 := s1.trans e2
  refine use_ne (a1.same e2) a2 (by grind) ?_
  walk_at "zz"
  refine use_times (ha.same s2) (hb.same s2) (by decide) (fun r3 H3 u3 v3 e3 a3 => ?_)
  have s3 : Same H H3 := s2.trans e3
  walk_at "zz"
  refine use_times (hb.same s3) (ha.same s3) (by decide) (fun r4 H4 u4 v4 e4 a4 => ?_)
  have s4 : Same H H4 := s3.trans e4
  refine use_ne (a3.same e4) a4 (by grind) ?_
  walk_at "zz"
  refine use_plus (ha.same s4) (hb.same s4) (by decide) (fun r5 H5 u5 v5 e5 a5 => ?_)
  have s5 : Same H H5 := s4.trans e5
  walk_at "zz"
  refine use_plus a5 (hc.same s5) (by decide) (fun r6 H6 u6 v6 e6 a6 => ?_)
  have s6 : Same H H6 := s5.trans e6
  walk_at "zz"
  refine use_plus (hb.same s6) (hc.same s6) (by decide) (fun r7 H7 u7 v7 e7 a7 => ?_)
  have s7 : Same H H7 := s6.trans e7
  walk_at "zz"
  refine use_plus (ha.same s7) a7 (by decide) (fun r8 H8 u8 v8 e8 a8 => ?_)
  have s8 : Same H H8 := s7.trans e8
  refine use_ne ((a6.same e7).same e8) a8 (by grind) ?_
  walk_at "zz"
  refine use_times (ha.same s8) (hb.same s8) (by decide) (fun r9 H9 u9 v9 e9 a9 => ?_)
  have s9 : Same H H9 := s8.trans e9
  walk_at "zz"
  refine use_times a9 (hc.same s9) (by decide) (fun r10 H10 u10 v10 e10 a10 => ?_)
  have s10 : Same H H10 := s9.trans e10
  walk_at "zz"
  refine use_times (hb.same s10) (hc.same s10) (by decide) (fun r11 H11 u11 v11 e11 a11 => ?_)
  have s11 : Same H H11 := s10.trans e11
  walk_at "zz"
  refine use_times (ha.same s11) a11 (by decide) (fun r12 H12 u12 v12 e12 a12 => ?_)
  have s12 : Same H H12 := s11.trans e12
  refine use_ne ((a10.same e11).same e12) a12 (by grind) ?_
  walk_at "zz"
  refine use_plus (hb.same s12) (hc.same s12) (by decide) (fun r13 H13 u13 v13 e13 a13 => ?_)
  have s13 : Same H H13 := s12.trans e13
  walk_at "zz"
  refine use_times (ha.same s13) a13 (by decide) (fun r14 H14 u14 v14 e14 a14 => ?_)
  have s14 : Same H H14 := s13.trans e14
  walk_at "zz"
  refine use_times (ha.same s14) (hb.same s14) (by decide) (fun r15 H15 u15 v15 e15 a15 => ?_)
  have s15 : Same H H15 := s14.trans e15
  walk_at "zz"
  refine use_times (ha.same s15) (hc.same s15) (by decide) (fun r16 H16 u16 v16 e16 a16 => ?_)
  have s16 : Same H H16 := s15.trans e16
  walk_at "zz"
  refine use_plus (a15.same e16) a16 (by decide) (fun r17 H17 u17 v17 e17 a17 => ?_)
  have s17 : Same H H17 := s16.trans e17
  refine use_ne (((a14.same e15).same e16).same e17) a17 (by grind) ?_
  have ha17 := ha.same s17
  have hb17 := hb.same s17
  have hc17 := hc.same s17
  walk_at "zz"
  refine use_plus ha17 hb17 (by decide) (fun r18 H18 u18 v18 e18 a18 => ?_)
  walk_at "zz"
  refine use_less a18 (hb17.same e18) (by decide) (fun r19 H19 u19 v19 e19 a19 => ?_)
  walk_at "zz"
  refine use_ne a19 ((ha17.same e18).same e19) (by grind) ?_
  walk_at "zz"
  refine use_less ((ha17.same e18).same e19) ((hb17.same e18).same e19) (by decide) (fun r20 H20 u20 v20 e20 a20 => ?_)
  have s20 := e18.trans (e19.trans e20)
  walk_at "zz"
  refine use_plus a20 (hb17.same s20) (by decide) (fun r21 H21 u21 v21 e21 a21 => ?_)
  have s21 := s20.trans e21
  walk_at "zz"
  refine use_ne a21 (ha17.same s21) (by grind) ?_
  walk_at "zz"
  refine use_less (ha17.same s21) (ha17.same s21) (by decide) (fun r22 H22 u22 v22 e22 a22 => ?_)
  walk_at "zz"
  refine z_new (by simp) (fun r23 H23 _ e23 h23 => ?_)
  have s23 := s21.trans (e22.trans e23)
  have a23 : At H23 r23 0 1 0 1 1 := ⟨h23, wo_self (low_f1 0), by decide, by decide⟩
  refine use_ne (a22.same e23) a23 (by grind) ?_
  walk_at "zz"
  refine z_new (by simp) (fun r24 H24 _ e24 h24 => ?_)
  have a24 : At H24 r24 1 1 1 1 1 := ⟨h24, wo_self (low_f1 1), by decide, by decide⟩
  have s24 := s23.trans e24
  walk_at "zz"
  refine use_times (ha17.same s24) a24 (by decide) (fun r25 H25 u25 v25 e25 a25 => ?_)
  have s25 := s24.trans e25
  walk_at "zz"
  refine use_ne a25 (ha17.same s25) (by grind) ?_
  have a0 := ha17.same s25
  have b1 := hb17.same s25
  have c1 := hc17.same s25
  walk_at "zz"
  refine use_below a0 b1 (by decide) ?_
  walk_at "zz"
  refine use_less a0 b1 (by decide) (fun r26 H26 u26 v26 e26 a26 => ?_)
  walk_at "zz"
  refine z_new (by simp) (fun r27 H27 _ e27 h27 => ?_)
  have a27 : At H27 r27 0 1 0 1 1 := ⟨h27, wo_self (low_f1 0), by decide, by decide⟩
  walk_at "zz"
  refine use_below (a26.same e27) a27 (by decide) ?_
  walk_at "zz"
  have s27 := e26.trans e27
  have a2 := a0.same s27
  have b2 := b1.same s27
  have c2 := c1.same s27
  have eq27 : decide (a * d < c * b) = decide ((a * d - c * b) * 1 < 0 * (b * d)) := decide_eq_decide.mpr (by
    rw [Int.zero_mul, Int.mul_one]
    omega)
  rw [decide_eq_true eq27]
  walk_at "zz"
  refine use_below a2 a2 (by decide) ?_
  rw [decide_eq_false (Int.lt_irrefl _)]
  walk_at "zy"
  refine cutT (fun k H' => k = false ∧ H27 = H') (fun Q' hQ => ?_) ?_
  · walk_at "zz"
    refine use_below a2 b2 (by decide) ?_
    walk_at "zz"
    refine z_ite (fun h => ?_) (fun _ => hQ _ _ ⟨rfl, rfl⟩)
    walk_at "zz"
    refine use_below b2 a2 (by decide) ?_
    walk_at "zz"
    rw [decide_eq_false (by omega)]
    exact hQ _ _ ⟨rfl, rfl⟩
  rintro k1 H' ⟨rfl, rfl⟩
  walk_at "zy"
  refine cutT (fun k H' => k = false ∧ H27 = H') (fun Q' hQ => ?_) ?_
  · walk_at "zz"
    by_cases hab : a * d = c * b
    · refine use_ne a2 b2 hab ?_
      walk_at "zz"
      exact hQ _ _ ⟨rfl, rfl⟩
    · refine z_neD (dpPair a2.h) (dpPair b2.h) (shPair _ _) (shPair _ _) (k := false) ?_ ?_
      · rw [eqvPair]
        by_cases h1 : a = c
        · have : b ≠ d := by
            intro z
            rw [h1, z] at hab
            exact hab rfl
          rw [decide_eq_false this, Bool.and_false]
        · rw [decide_eq_false h1, Bool.false_and]
      walk_at "zz"
      refine use_below a2 b2 (by decide) ?_
      walk_at "zz"
      by_cases hl : a * d < c * b
      · rw [decide_eq_true hl]
        walk_at "zz"
        exact hQ _ _ ⟨rfl, rfl⟩
      · rw [decide_eq_false hl]
        walk_at "zz"
        refine use_below b2 a2 (by decide) ?_
        walk_at "zz"
        rw [decide_eq_true (show c * b < a * d by omega)]
        exact hQ _ _ ⟨rfl, rfl⟩
  rintro k1 H' ⟨rfl, rfl⟩
  walk_at "zy"
  refine cutT (fun k H' => k = false ∧ H27 = H') (fun Q' hQ => ?_) ?_
  · walk_at "zz"
    refine use_below a2 b2 (by decide) ?_
    walk_at "zz"
    refine z_ite (fun h => ?_) (fun _ => hQ _ _ ⟨rfl, rfl⟩)
    walk_at "zz"
    refine use_below b2 c2 (by decide) ?_
    walk_at "zz"
    refine z_ite (fun h' => ?_) (fun _ => hQ _ _ ⟨rfl, rfl⟩)
    walk_at "zz"
    refine use_below a2 c2 (by decide) ?_
    walk_at "zz"
    rw [decide_eq_true (less_trans b0 d0 f0 h h')]
    exact hQ _ _ ⟨rfl, rfl⟩
  rintro k1 H' ⟨rfl, rfl⟩
  walk_at "zz"
  refine ⟨p, a, b, rfl, a2.h, b0, pw_mono a2.bY (by decide), ?_⟩
  obtain ⟨n, hn⟩ : ∃ n, n = (2 * a + b).fdiv (2 * b) := ⟨_, rfl⟩
  rw [← hn]
  obtain ⟨⟨n1, n2⟩, n3⟩ := near_le b0 hn
  have bx := a2.bx
  have bY := a2.bY
  walk_at "zz"
  refine z_new (by simp) (fun r28 H28 _ e28 h28 => ?_)
  have a28 : At H28 r28 n 1 n 1 210 := ⟨h28, wo_self (low_f1 n), by
    have : (2 : Nat) ^ 200 * 8 ≤ 2 ^ 210 := by decide
    omega, by decide⟩
  walk_at "zz"
  refine use_less a28 (a2.same e28) (by decide) (fun r29 H29 u29 v29 e29 a29 => ?_)
  walk_at "zz"
  refine z_new (by simp) (fun r30 H30 _ e30 h30 => ?_)
  have a30 : At H30 r30 1 2 1 2 2 := ⟨h30, wo_self ⟨by decide, by decide⟩, by decide, by decide⟩
  walk_at "zz"
  refine use_below a30 (a29.same e30) (by decide) ?_
  have en : (n * b - a * 1) * 2 = 2 * b * n - 2 * a := by grind
  walk_at "zz"
  rw [decide_eq_false (show ¬ 1 * (1 * b) < (n * b - a * 1) * 2 by omega)]
  walk_at "zz"
  refine z_new (by simp) (fun r31 H31 _ e31 h31 => ?_)
  have a31 : At H31 r31 (-1) 2 (-1) 2 2 := ⟨h31, wo_self ⟨by decide, by decide⟩, by decide, by decide⟩
  walk_at "zz"
  refine use_below a31 ((a29.same e30).same e31) (by decide) ?_
  rw [decide_eq_true (show -1 * (1 * b) < (n * b - a * 1) * 2 by omega)]
  exact k _ (s17.trans (s25.trans (s27.trans (e28.trans (e29.trans (e30.trans e31))))))
def spLaw (K : PySem.W.Frag) : Sp := fun vs H Q _ => ∃ (a : Addr) (ns : List Int), vs = [.ref a] ∧ SqL K H a (ns.map V.int) ∧ ns.length ≤ 63 ∧ ∀ H', Q (.bl true) H'
def PrA (H : Hp) (v : V) : Prop := ∃ (p : Addr) (c d : Int), v = .ref p ∧ At H p c d c d 200
theorem PrA.same {H H' : Hp} {v : V} (h : PrA H v) (e : Same H H') : PrA H' v := by
  obtain ⟨p, c, d, rfl, h⟩ := h
  exact ⟨p, c, d, rfl, h.same e⟩
theorem PrA.dr {s : Addr} {H H' : Hp} {v : V} (h : PrA H v) (e : Dr s H H') : PrA H' v := by
  obtain ⟨p, c, d, rfl, h⟩ := h
  exact ⟨p, c, d, rfl, e.tup h.h, h.w, h.bx, h.bY⟩
theorem PrA.upd {l : Addr} {H : Hp} {v : V} {xs ys : List V} (h : PrA H v) (hl : H l = some (.lst ys)) : PrA (upd H l (.lst xs)) v := by
  obtain ⟨p, c, d, rfl, h⟩ := h
  exact ⟨p, c, d, rfl, by rw [upd_ne (ne_of h.h hl (by intro z; cases z))]; exact h.h, h.w, h.bx, h.bY⟩
theorem cells {ns : List Int} (lo hi : Option Int) (hl : ns.length ≤ 63) : ∃ cs : List Int, cutV (ns.map V.int) lo hi = cs.map V.int ∧ cs.length ≤ 63 := by
  refine ⟨(ns.drop (HT.sIx (ns.map V.int).length 0 lo)).take (HT.sIx (ns.map V.int).length (ns.map V.int).length hi - HT.sIx (ns.map V.int).length 0 lo), ?_, ?_⟩
  · unfold cutV
    rw [List.map_take, List.map_drop]
  · rw [List.length_take, List.length_drop]
    omega
theorem cell_at {cs : List Int} {i : Nat} {v : V} (hv : (cs.map V.int)[i]? = some v) : ∃ c : Int, v = .int c := by
  rw [List.getElem?_map] at hv
  obtain ⟨c, _, e⟩ := Option.map_eq_some_iff.mp hv
  exact ⟨c, e.symm⟩
theorem ok_law {f : Addr} {fd : FuncData} (F : FnP K "law" s_law f fd) (m_range : mg "range" = none) (h_pair : Has P w K mg base 2 "pair" ["num", "den"] (spPair K)) (h__law_cell_at : Has P w K mg base 1 "_law_cell_at" ["_law_script", "_law_k"] (spCell K)) (h__law_begin : Has P w K mg base 1 "_law_begin" ["_law_cell"] (spBegin K))
    (h__law_far : Has P w K mg base 2 "_law_far" ["_law_source"] spFar) (h__law_right : Has P w K mg base 4 "_law_right" ["_law_a", "_law_b", "_law_c"] spRight) : FnOk P w K mg base CX0 5 f fd ["_law_script"] (spLaw K) := by
  refine F.ok sc_law (fun vs H Q E h => ?_) (fun cdv A outer s H vs Q E hr h => ?_)
  · obtain ⟨a, ns, rfl, _⟩ := h; rfl
  obtain ⟨a, ns, rfl, hS, hlen, q⟩ := h
  refine ⟨_, PSs.nox (pss_cons (ps_for PassesOwn.never rfl (pi_listE K (pe_op op_cat (pe_lst (pa_cons (pe_callH h__law_cell_at (hr.mono (by decide)) (by rfl) (pa_cons (pv 0) (pa_cons pe_int pa_nil))) pa_nil)) (pe_slice (sl_listE K) (pv 0) (po_some pe_int) (po_some pe_int)))) (pg_name (i := 1) sc_law.nd rfl (.inl rfl))
    (pss_cons (ps_set (i := 2) sc_law.nd rfl (.inr rfl) (pe_callH h__law_begin (hr.mono (by decide)) (by rfl) (pa_cons (pv 1) pa_nil)))
  (pss_cons (ps_setLc (i := 3) (own := [("_law_k", 4)]) (g := (gName 4)) (by rfl) sc_law.nd rfl rfl (sw_true rfl rfl rfl (by decide +kernel)) (pi_range1 (by rfl) m_range (pa_cons pe_int pa_nil)) (blkOk_by (own := [("_law_k", 4)]) (N := ["_law_script", "_law_cell", "_law_source", "_law_some", "_law_k"]) (sc := defScope s_law) (by decide +kernel)) (fun _ _ _ _ _ => (pg_name (i := 4) sc_law.nd rfl (.inl rfl))) (fun _ _ _ _ _ => pts_nil) (fun _ _ _ _ _ => (pe_callH h_pair (hr.mono (by decide)) (by rfl) (pa_cons (pe_callH h__law_far (hr.mono (by decide)) (by rfl) (pa_cons (pv 2) pa_nil)) (pa_cons (pe_orTE K (pe_callH h__law_far (hr.mono (by decide)) (by rfl) (pa_cons (pv 2) pa_nil)) (pe_one (pe_op op_add pe_int (pv 4)))) pa_nil)))))
  (pss_cons (ps_if (pt_not (pt_val (pe_callH h__law_right (hr.mono (by decide)) (by rfl) (pa_cons (pe_ix (ix_listE K) (pv 3) pe_int (fun _ _ => rfl)) (pa_cons (pe_ix (ix_listE K) (pv 3) pe_int (fun _ _ => rfl)) (pa_cons (pe_ix (ix_listE K) (pv 3) pe_int (fun _ _ => rfl)) pa_nil))))))
    (pss_one (ps_ret pe_bl))
    pss_nil)
  (pss_one (ps_if (PW.pt (pw_or (pt_not (pt_val (pe_callH h__law_right (hr.mono (by decide)) (by rfl) (pa_cons (pe_ix (ix_listE K) (pv 3) pe_int (fun _ _ => rfl)) (pa_cons (pe_ix (ix_listE K) (pv 3) pe_int (fun _ _ => rfl)) (pa_cons (pe_ix (ix_listE K) (pv 3) pe_int (fun _ _ => rfl)) pa_nil)))))) (pw_or1 (pt_not (pt_val (pe_callH h__law_right (hr.mono (by decide)) (by rfl) (pa_cons (pe_ix (ix_listE K) (pv 3) pe_int (fun _ _ => rfl)) (pa_cons (pe_ix (ix_listE K) (pv 3) pe_int (fun _ _ => rfl)) (pa_cons (pe_ix (ix_listE K) (pv 3) pe_int (fun _ _ => rfl)) pa_nil)))))))))
    (pss_one (ps_ret pe_bl))
    pss_nil))))))
  (pss_one (ps_ret pe_bl))), ?_⟩
  walk_at "zz"
  refine ⟨a, ns, 0, rfl, hS, hlen, fun c0 => ?_⟩
  walk_at "zz"
  refine z_new (by simp) (fun p1 H1 n1 s1 h1 => ?_)
  walk_at "zz"
  refine z_slL (s1.seq hS) (fun p2 H2 n2 s2 h2 => ?_)
  obtain ⟨cs, hcs, hcl⟩ := cells (some 1) (some 12) hlen
  rw [hcs] at h2
  refine z_cat (s2 _ _ h1) h2 (by simp; omega) (fun p3 H3 n3 s3 h3 => ?_)
  refine ⟨p3, rfl, ⟨_, SqL.of h3⟩, for_list (xs := (c0 :: cs).map V.int) (fun i σ H' => (∃ y1 y2 y3 y4, σ = [some (.ref a), y1, y2, y3, y4]) ∧ H' p3 = some (.lst ((c0 :: cs).map V.int))) ⟨⟨_, _, _, _, rfl⟩, h3⟩ (fun i σ H' _ h => SqL.of h.2) ?_ ?_⟩
  · rintro i v σ H4 hv ⟨⟨y1, y2, y3, y4, rfl⟩, h4⟩
    obtain ⟨c, rfl⟩ := cell_at hv
    walk_at "zz"
    refine ⟨c, rfl, fun s5 H5 n5 e5 r5 => ?_⟩
    have h5 := e5 _ _ h4
    have ne5 : p3 ≠ s5 := ne_of_none h4 n5
    walk_at "zz"
    refine ⟨_, rfl, by decide, by decide, fun Dl nD => lc_range (lo := 0) (n := 3) (fun i H' => Dr s5 H5 H' ∧ ∃ vs, H' Dl = some (.lst vs) ∧ vs.length = i ∧ ∀ v ∈ vs, PrA H' v) ?_ ?_ ?_⟩
    · have sm : Same H5 (upd H5 Dl (.lst [])) := fun b u e => by rw [upd_ne (ne_of_none e nD)]; exact e
      exact ⟨Dr.of_same r5 sm, [], upd_same, rfl, fun v h => by cases h⟩
    · rintro k H6 hk ⟨d6, vs, hD6, hvl, hvs⟩
      refine ⟨rfl, ?_⟩
      walk_at "zz"
      refine ⟨s5, rfl, d6.src, fun n1 H7 hn1 d7 => ?_⟩
      walk_at "zz"
      refine ⟨s5, rfl, d7.src, fun m1 H8 hm1 d8 => ?_⟩
      refine z_orCut (fun den H9 => den ≠ 0 ∧ den.natAbs < 2 ^ 200 ∧ H8 = H9) (fun hz => ⟨hz, hm1, rfl⟩) ?_ ?_
      case refine_2 =>
        intro hz Q' hQ
        walk_at "zz"
        exact hQ _ _ ⟨by omega, Nat.lt_of_le_of_lt (m := 100) (by omega) (by decide), rfl⟩
      rintro den H9 ⟨hz1, hd1, rfl⟩
      walk_at "zz"
      refine ⟨n1, den, rfl, hz1, pw_mono hd1 (by decide), fun po H9 _ e9 ho9 => ?_⟩
      have nDs : Dl ≠ s5 := r5.ne nD
      have hD9 := e9 _ _ (d8.keep _ _ nDs (d7.keep _ _ nDs hD6))
      have d9 := ((d6.trans d7).trans d8).trans (Dr.of_same d8.src e9)
      refine ⟨vs, hD9, small1000 (by omega), ?_, vs ++ [.ref po], upd_same, by simp [hvl], ?_⟩
      · refine ⟨fun b u nb hb => ?_, ?_, r5⟩
        · rw [upd_ne (ne_of_none hb nD)]
          exact d9.keep _ _ nb hb
        · obtain ⟨x, y, z, hh⟩ := d9.src
          exact ⟨x, y, z, by rw [upd_ne nDs.symm]; exact hh⟩
      · intro v hv
        rcases List.mem_append.mp hv with h | h
        · exact (((((hvs v h).dr d7).dr d8).same e9)).upd hD9
        · rw [List.mem_singleton.mp h]
          exact PrA.upd ⟨po, _, _, rfl, ho9, wo_self (low_pair hz1), Nat.lt_of_le_of_lt (pn_le hz1) hn1, Nat.lt_of_le_of_lt (pd_le hz1) hd1⟩ hD9
    · rintro H6 ⟨d6, vs, hD6, hvl, hvs⟩
      obtain ⟨v0, v1, v2, rfl⟩ : ∃ v0 v1 v2, vs = [v0, v1, v2] := by
        rcases vs with _ | ⟨v0, _ | ⟨v1, _ | ⟨v2, _ | ⟨v3, vs⟩⟩⟩⟩
        · cases hvl
        · cases hvl
        · cases hvl
        · exact ⟨v0, v1, v2, rfl⟩
        · simp at hvl
      obtain ⟨q0, a0, b0, rfl, t0⟩ := hvs v0 (by simp)
      obtain ⟨q1, a1, b1, rfl, t1⟩ := hvs v1 (by simp)
      obtain ⟨q2, a2, b2, rfl, t2⟩ := hvs v2 (by simp)
      walk_at "zz"
      refine z_ixL (SqL.of hD6) (v := .ref q0) rfl ?_
      walk_at "zz"
      refine z_ixL (SqL.of hD6) (v := .ref q1) rfl ?_
      walk_at "zz"
      refine z_ixL (SqL.of hD6) (v := .ref q2) rfl ?_
      walk_at "zz"
      refine ⟨q0, q1, q2, a0, b0, a1, b1, a2, b2, rfl, t0, t1, t2, fun H7 e7 => ?_⟩
      have hD7 := e7 _ _ hD6
      walk_at "zz"
      refine z_ixL (SqL.of hD7) (v := .ref q0) rfl ?_
      walk_at "zz"
      refine z_ixL (SqL.of hD7) (v := .ref q0) rfl ?_
      walk_at "zz"
      refine z_ixL (SqL.of hD7) (v := .ref q2) rfl ?_
      walk_at "zz"
      refine ⟨q0, q0, q2, a0, b0, a0, b0, a2, b2, rfl, t0.same e7, t0.same e7, t2.same e7, fun H8 e8 => ?_⟩
      have hD8 := e8 _ _ hD7
      have e78 := e7.trans e8
      walk_at "zz"
      refine z_ixL (SqL.of hD8) (v := .ref q2) rfl ?_
      walk_at "zz"
      refine z_ixL (SqL.of hD8) (v := .ref q1) rfl ?_
      walk_at "zz"
      refine z_ixL (SqL.of hD8) (v := .ref q2) rfl ?_
      walk_at "zz"
      refine ⟨q2, q1, q2, a2, b2, a1, b1, a2, b2, rfl, t2.same e78, t1.same e78, t2.same e78, fun H9 e9 => ?_⟩
      walk_at "zz"
      exact ⟨⟨_, _, _, _, rfl⟩, e9 _ _ (e78 _ _ (d6.keep _ _ ne5 h5))⟩
  · rintro σ H4 ⟨⟨y1, y2, y3, y4, rfl⟩, h4⟩
    walk_at "zz"
    exact q _
end
/-! ### the head: facts by names, the run -/
def d_greatest_divisor : He.DefD := ⟨("greatest_divisor", none), "greatest_divisor", "greatest_divisor", defArgs (topS 1), defBody (topS 1), defScope (topS 1), [], []⟩
def d_pair : He.DefD := ⟨("pair", none), "pair", "pair", defArgs (topS 2), defBody (topS 2), defScope (topS 2), [], []⟩
def d_plus : He.DefD := ⟨("plus", none), "plus", "plus", defArgs (topS 3), defBody (topS 3), defScope (topS 3), [], []⟩
def d_less : He.DefD := ⟨("less", none), "less", "less", defArgs (topS 4), defBody (topS 4), defScope (topS 4), [], []⟩
def d_times : He.DefD := ⟨("times", none), "times", "times", defArgs (topS 5), defBody (topS 5), defScope (topS 5), [], []⟩
def d_below : He.DefD := ⟨("below", none), "below", "below", defArgs (topS 6), defBody (topS 6), defScope (topS 6), [], []⟩
def d_nearest : He.DefD := ⟨("nearest", none), "nearest", "nearest", defArgs (topS 7), defBody (topS 7), defScope (topS 7), [], []⟩
def d__law_cell_at : He.DefD := ⟨("_law_cell_at", none), "_law_cell_at", "_law_cell_at", defArgs (topS 9), defBody (topS 9), defScope (topS 9), [], []⟩
def d__law_begin : He.DefD := ⟨("_law_begin", none), "_law_begin", "_law_begin", defArgs (topS 10), defBody (topS 10), defScope (topS 10), [], []⟩
def d__law_draw : He.DefD := ⟨("_law_draw", none), "_law_draw", "_law_draw", defArgs (topS 11), defBody (topS 11), defScope (topS 11), [], []⟩
def d__law_far : He.DefD := ⟨("_law_far", none), "_law_far", "_law_far", defArgs (topS 12), defBody (topS 12), defScope (topS 12), [], []⟩
def d__law_right : He.DefD := ⟨("_law_right", none), "_law_right", "_law_right", defArgs (topS 13), defBody (topS 13), defScope (topS 13), [], []⟩
def d_law : He.DefD := ⟨("law", none), "law", "law", defArgs (topS 14), defBody (topS 14), defScope (topS 14), [], []⟩
def fn : List He.DefD := [d_greatest_divisor, d_pair, d_plus, d_less, d_times, d_below, d_nearest, d__law_cell_at, d__law_begin, d__law_draw, d__law_far, d__law_right, d_law]
def fa : List He.Fa := [.glo "greatest_divisor", .glo "pair", .glo "plus", .glo "less", .glo "times", .glo "below", .glo "nearest", .glo "_law_cell_at", .glo "_law_begin", .glo "_law_draw", .glo "_law_far", .glo "_law_right", .glo "law", .free "abs", .free "int", .free "len", .free "range"]
abbrev R : PySem.W.OpenRow := PySem.W.OpenLaw.row PySem.Challenge.rw_sumtold_k04_whole_sums_of_pairs
abbrev hk : PySem.W.Hook := He.hookD 15 fa fn
def ob (s : PySem.W.SharedT) : He.AlD := He.obsDG 15 fa fn (HandSHeadRun.getT s)
theorem ob_eq (s : PySem.W.SharedT) : ob s = hk.obs s.abs := He.obsDG_eq (HandSHeadRun.getT_eq s)
theorem run (w : World) : HandSHeadRun.RunEq R (PySem.W.view R.prog [14]) hk ob 1500 ["greatest_divisor", "pair", "plus", "less", "times", "below", "nearest", "_law_cell_at", "_law_begin", "_law_draw", "_law_far", "_law_right"] w := by
  intro os
  kernel_rfl
theorem facts {P : Program} {w : World} {K : PySem.W.Frag} {h : Heap} {mg : Str → Option Value} {f : Addr} (X : K.In h) (G : h.Ns mainGlobals mg) (hfa : mg ("law" : Str) = some (.ref f)) (c : He.SaysD fa fn K) :
    ∃ fd : FuncData, (∀ (s : Shared) (v : Value), BindsTo s fd ⟨[v], []⟩ [("_law_script", v)]) ∧ ∀ base : Heap, K.In base → base.Ns mainGlobals mg → FnOk P w K mg base CX0 5 f fd ["_law_script"] (spLaw K) := by
  obtain ⟨fd_greatest_divisor, F_greatest_divisor⟩ := c.def_ 0 (d := d_greatest_divisor) rfl
  obtain ⟨fd_pair, F_pair⟩ := c.def_ 1 (d := d_pair) rfl
  obtain ⟨fd_plus, F_plus⟩ := c.def_ 2 (d := d_plus) rfl
  obtain ⟨fd_less, F_less⟩ := c.def_ 3 (d := d_less) rfl
  obtain ⟨fd_times, F_times⟩ := c.def_ 4 (d := d_times) rfl
  obtain ⟨fd_below, F_below⟩ := c.def_ 5 (d := d_below) rfl
  obtain ⟨fd_nearest, F_nearest⟩ := c.def_ 6 (d := d_nearest) rfl
  obtain ⟨fd__law_cell_at, F__law_cell_at⟩ := c.def_ 7 (d := d__law_cell_at) rfl
  obtain ⟨fd__law_begin, F__law_begin⟩ := c.def_ 8 (d := d__law_begin) rfl
  obtain ⟨fd__law_draw, F__law_draw⟩ := c.def_ 9 (d := d__law_draw) rfl
  obtain ⟨fd__law_far, F__law_far⟩ := c.def_ 10 (d := d__law_far) rfl
  obtain ⟨fd__law_right, F__law_right⟩ := c.def_ 11 (d := d__law_right) rfl
  obtain ⟨fd_law, F_law⟩ := c.def_ 12 (d := d_law) rfl
  have e := hfa.symm.trans (He.glo_ok X G (c.fact 12 (f := .glo "law") rfl))
  cases e
  have g_greatest_divisor := He.glo_ok X G (c.fact 0 (f := .glo "greatest_divisor") rfl)
  have g_pair := He.glo_ok X G (c.fact 1 (f := .glo "pair") rfl)
  have g_plus := He.glo_ok X G (c.fact 2 (f := .glo "plus") rfl)
  have g_less := He.glo_ok X G (c.fact 3 (f := .glo "less") rfl)
  have g_times := He.glo_ok X G (c.fact 4 (f := .glo "times") rfl)
  have g_below := He.glo_ok X G (c.fact 5 (f := .glo "below") rfl)
  have g_nearest := He.glo_ok X G (c.fact 6 (f := .glo "nearest") rfl)
  have g__law_cell_at := He.glo_ok X G (c.fact 7 (f := .glo "_law_cell_at") rfl)
  have g__law_begin := He.glo_ok X G (c.fact 8 (f := .glo "_law_begin") rfl)
  have g__law_draw := He.glo_ok X G (c.fact 9 (f := .glo "_law_draw") rfl)
  have g__law_far := He.glo_ok X G (c.fact 10 (f := .glo "_law_far") rfl)
  have g__law_right := He.glo_ok X G (c.fact 11 (f := .glo "_law_right") rfl)
  have m_abs := He.free_ok X G (c.fact 13 (f := .free "abs") rfl)
  have m_int := He.free_ok X G (c.fact 14 (f := .free "int") rfl)
  have m_len := He.free_ok X G (c.fact 15 (f := .free "len") rfl)
  have m_range := He.free_ok X G (c.fact 16 (f := .free "range") rfl)
  have b_greatest_divisor : Binds K fd_greatest_divisor ["one", "other"] [] := F_greatest_divisor.bindsN fun _ _ _ _ _ _ us hl => match us, hl with | [_, _], _ => rfl
  have b_pair : Binds K fd_pair ["num", "den"] [] := F_pair.bindsN fun _ _ _ _ _ _ us hl => match us, hl with | [_, _], _ => rfl
  have b_plus : Binds K fd_plus ["one", "other"] [] := F_plus.bindsN fun _ _ _ _ _ _ us hl => match us, hl with | [_, _], _ => rfl
  have b_less : Binds K fd_less ["one", "other"] [] := F_less.bindsN fun _ _ _ _ _ _ us hl => match us, hl with | [_, _], _ => rfl
  have b_times : Binds K fd_times ["one", "other"] [] := F_times.bindsN fun _ _ _ _ _ _ us hl => match us, hl with | [_, _], _ => rfl
  have b_below : Binds K fd_below ["one", "other"] [] := F_below.bindsN fun _ _ _ _ _ _ us hl => match us, hl with | [_, _], _ => rfl
  have b_nearest : Binds K fd_nearest ["one"] [] := F_nearest.bindsN fun _ _ _ _ _ _ us hl => match us, hl with | [_], _ => rfl
  have b__law_cell_at : Binds K fd__law_cell_at ["_law_script", "_law_k"] [] := F__law_cell_at.bindsN fun _ _ _ _ _ _ us hl => match us, hl with | [_, _], _ => rfl
  have b__law_begin : Binds K fd__law_begin ["_law_cell"] [] := F__law_begin.bindsN fun _ _ _ _ _ _ us hl => match us, hl with | [_], _ => rfl
  have b__law_draw : Binds K fd__law_draw ["_law_source", "_law_most"] [] := F__law_draw.bindsN fun _ _ _ _ _ _ us hl => match us, hl with | [_, _], _ => rfl
  have b__law_far : Binds K fd__law_far ["_law_source"] [] := F__law_far.bindsN fun _ _ _ _ _ _ us hl => match us, hl with | [_], _ => rfl
  have b__law_right : Binds K fd__law_right ["_law_a", "_law_b", "_law_c"] [] := F__law_right.bindsN fun _ _ _ _ _ _ us hl => match us, hl with | [_, _, _], _ => rfl
  have b_law := FunD.bindsA (ps := ["_law_script"]) F_law fun _ _ _ _ _ _ us hl => match us, hl with | [_], _ => rfl
  refine ⟨fd_law, fun s v => b_law s [v] rfl, fun base _ _ => ?_⟩
  have h_greatest_divisor : Has P w K mg base _ "greatest_divisor" _ _ := ⟨_, fd_greatest_divisor, ok_greatest_divisor (P := P) (w := w) (base := base) F_greatest_divisor m_abs, F_greatest_divisor.kp, b_greatest_divisor, g_greatest_divisor⟩
  have h_pair : Has P w K mg base _ "pair" _ _ := ⟨_, fd_pair, ok_pair (P := P) (w := w) (base := base) F_pair h_greatest_divisor, F_pair.kp, b_pair, g_pair⟩
  have h_plus : Has P w K mg base _ "plus" _ _ := ⟨_, fd_plus, ok_plus (P := P) (w := w) (base := base) F_plus h_pair, F_plus.kp, b_plus, g_plus⟩
  have h_less : Has P w K mg base _ "less" _ _ := ⟨_, fd_less, ok_less (P := P) (w := w) (base := base) F_less h_pair, F_less.kp, b_less, g_less⟩
  have h_times : Has P w K mg base _ "times" _ _ := ⟨_, fd_times, ok_times (P := P) (w := w) (base := base) F_times h_pair, F_times.kp, b_times, g_times⟩
  have h_below : Has P w K mg base _ "below" _ _ := ⟨_, fd_below, ok_below (P := P) (w := w) (base := base) F_below , F_below.kp, b_below, g_below⟩
  have h_nearest : Has P w K mg base _ "nearest" _ _ := ⟨_, fd_nearest, ok_nearest (P := P) (w := w) (base := base) F_nearest , F_nearest.kp, b_nearest, g_nearest⟩
  have h__law_cell_at : Has P w K mg base _ "_law_cell_at" _ _ := ⟨_, fd__law_cell_at, ok__law_cell_at (P := P) (w := w) (base := base) F__law_cell_at m_len, F__law_cell_at.kp, b__law_cell_at, g__law_cell_at⟩
  have h__law_begin : Has P w K mg base _ "_law_begin" _ _ := ⟨_, fd__law_begin, ok__law_begin (P := P) (w := w) (base := base) F__law_begin m_int, F__law_begin.kp, b__law_begin, g__law_begin⟩
  have h__law_draw : Has P w K mg base _ "_law_draw" _ _ := ⟨_, fd__law_draw, ok__law_draw (P := P) (w := w) (base := base) F__law_draw , F__law_draw.kp, b__law_draw, g__law_draw⟩
  have h__law_far : Has P w K mg base _ "_law_far" _ _ := ⟨_, fd__law_far, ok__law_far (P := P) (w := w) (base := base) F__law_far m_range h__law_draw, F__law_far.kp, b__law_far, g__law_far⟩
  have h__law_right : Has P w K mg base _ "_law_right" _ _ := ⟨_, fd__law_right, ok__law_right (P := P) (w := w) (base := base) F__law_right h_plus h_less h_times h_below h_nearest, F__law_right.kp, b__law_right, g__law_right⟩
  exact ok_law (P := P) (w := w) (base := base) F_law m_range h_pair h__law_cell_at h__law_begin h__law_far h__law_right
end Zl
open PySem PySem.W PySem.Calls PyProof.Rows
theorem PySem.Challenge.cw_sumtold_k04_whole_sums_of_pairs_holds : PySem.Challenge.rw_sumtold_k04_whole_sums_of_pairs.Holds := by
  w_on; o_law
  refine HandSHeadRun.head_any (r := OpenLaw.row PySem.Challenge.rw_sumtold_k04_whole_sums_of_pairs) (q := view (OpenLaw.row PySem.Challenge.rw_sumtold_k04_whole_sums_of_pairs).prog [14]) (H := Zl.hk) (ob := Zl.ob) (M := 1500) (loose := ["greatest_divisor", "pair", "plus", "less", "times", "below", "nearest", "_law_cell_at", "_law_begin", "_law_draw", "_law_far", "_law_right"]) (d := HandSHeadRun.topDef (OpenLaw.row PySem.Challenge.rw_sumtold_k04_whole_sums_of_pairs).prog 14) (kwd := []) Zl.ob_eq
    (by kernel_rfl) (fun s => by kernel_rfl) Zl.run (by kernel_rfl) (by kernel_rfl) (by kernel_rfl) (by rfl) (by first | assumption | decide +kernel) (by decide +kernel) ⟨rfl, rfl, rfl, rfl, rfl, by decide +kernel⟩ ?hw ?hc
  case hw => w_witness2
  case hc =>
    refine L2.walk_ofE (l := PySem.Challenge.rw_sumtold_k04_whole_sums_of_pairs) (n := 63) (k := 5) (x := "_law_script") (CX := L2.CX0) rfl (by decide) (by kernel_rfl) ⟨rfl, by decide, by decide⟩ ?F (fun _ _ _ _ z => z)
    intro w mg fa h Y G hmg0
    obtain ⟨K, KX, c⟩ := Y
    have hmg : mg ("law" : PySem.Str) = some (.ref fa) := by
      have e : (HandSHeadRun.topDef (OpenLaw.row PySem.Challenge.rw_sumtold_k04_whole_sums_of_pairs).prog 14).name = ("law" : PySem.Str) := by kernel_rfl
      rw [← e]
      exact hmg0
    obtain ⟨fd, hb, hF⟩ := Zl.facts (P := (PySem.Challenge.rw_sumtold_k04_whole_sums_of_pairs).prog) (w := w) KX G hmg c
    exact ⟨K, fd, Zl.spLaw K, KX, hb, fun H a ns hl _ hS => ⟨a, ns, rfl, hS, hl, fun _ => rfl⟩, hF⟩
