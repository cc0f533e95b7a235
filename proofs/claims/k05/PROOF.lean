import PyProof.Rows.All
import Wide.All
import OpenK.AllK
import Wide.FinOn
import KE.KStateDown
import Lean
import HandS.ForMost
import HandS.Flow
import HandS.Wide
import HandS.WideBits
import HandS.IsInst
import HandS.Style
import KE.BitLaws
import HandS.Defaults
import HandS.Head0
import HandS.Head1
import HandS.Head2
import HandS.HeadEnd
import HandS.HeadHook1
import HandS.HeadHook2
import PySem.Challenge.RW_sumtold_k05_parts_reckoned
set_option Elab.async false
set_option linter.all false
set_option maxRecDepth 100000
set_option maxHeartbeats 4000000
set_option Elab.async false
set_option linter.all false
set_option maxRecDepth 100000
set_option maxHeartbeats 2000000
namespace Zk
open PySem PySem.Spec PyProof.Rows L2
/-! ## a def by its promise -/
abbrev FnP (K : PySem.W.Frag) (x : Str) (st : Stmt) (f : Addr) (fd : FuncData) : Prop := FunD K x x (defArgs st) (defBody st) (defScope st) [] [] f fd
def Has (P : Program) (w : World) (K : PySem.W.Frag) (mg : Str → Option Value) (base : Heap) (k : Nat) (x : Str) (ps : List Str) (sp : Sp) : Prop :=
  ∃ f fd, FnOk P w K mg base CX0 k f fd ps sp ∧ PySem.W.keepIn K (.ref f) = true ∧ Binds K fd ps [] ∧ mg x = some (.ref f)
theorem pe_callH {X : Cx} {k : Nat} {x : Str} {ps : List Str} {sp : Sp} {e : Expr} {es : List Expr} {t : TA} {p pos : Pos} (h : Has X.prog X.w X.K X.mg X.base k x ps sp) (hr : Room k X.A) (hg : Gl X x) (ha : PA X (e :: es) t)
    (hdb : (x == ("__debug__" : Str)) = false := by decide) (he : starEach (e :: es) X.env = (false, eval e X.env) :: starEach es X.env := by rfl) (hpl : (backTo pos (starEach es X.env)).any (·.1) = false := by rfl) :
    PE X (.Call (.Name x p) (e :: es) [] pos) (tCall sp [] E0 t) := by
  obtain ⟨f, fd, F, hk, hb, hm⟩ := h
  exact pe_call F hr hg hm hk hb .nil pass0 ha hdb he hpl
/-! ## operators for numbers of some size -/
def CMulA (i j : Int) : Prop := CMul i j ∨ CMulW i j
def CDivA (_ j : Int) : Prop := j ≠ 0 ∧ j.natAbs.log2 < 9000
section
variable {X : Cx}
theorem op_mulA : OpR X (binaryOp .Mult) (rI CMulA fun i j => .int (i * j)) := opI fun _ _ _ _ _ _ _ hc q => mul_int q (hc.elim (fun h => h.ok) (fun h => h.ok))
theorem op_fdivA : OpR X (binaryOp .FloorDiv) (rI CDivA fun i j => .int (i.fdiv j)) := opI fun _ _ _ _ _ _ _ hc q => floordiv_int hc.1 q (.inl (PyProof.noPylong_of_log2 hc.2))
theorem op_shlA : OpR X (binaryOp .LShift) (rI CShl fun i j => .int (i * 2 ^ j.toNat)) := op_shlW
theorem op_shrA : OpR X (binaryOp .RShift) (rI (fun _ j => 0 ≤ j) fun i j => .int (i / 2 ^ j.toNat)) := op_shr
end
theorem divA {i j : Int} {n : Nat} (h0 : j ≠ 0) (h : j.natAbs < 2 ^ n) (hn : 0 < n) (h9 : n ≤ 9000) : CDivA i j := ⟨h0, Nat.lt_of_lt_of_le (PySem.Flt.log2_lt_of hn h) h9⟩
theorem mulA {i j : Int} {a b : Nat} (ha : i.natAbs < 2 ^ a) (hb : j.natAbs < 2 ^ b) (h0 : 0 < a) (h1 : 0 < b) (h : a + b ≤ 1000000) : CMulA i j := .inr (wide_mul ha hb h0 h1 h)
theorem mulL {i j : Int} (h : -(2 ^ 64) < i ∧ i < 2 ^ 64) : CMulA i j := .inl (.inl h)
theorem mulR {i j : Int} (h : -(2 ^ 64) < j ∧ j < 2 ^ 64) : CMulA i j := .inl (.inr h)
/-! ## rules with the written part named -/
def rLenK (K : PySem.W.Frag) : List V → Hp → VK → Prop := fun xs H Q => ∃ x n, xs = [x] ∧ LenV K x H n ∧ Q (.int n) H
def rListK (K : PySem.W.Frag) : List V → Hp → VK → Prop := fun xs H Q => ∃ p ys, xs = [.ref p] ∧ (SqL K H p ys ∨ SqT K H p ys) ∧ ∀ l, H l = none → Q (.ref l) (upd H l (.lst ys))
def rTupleK (K : PySem.W.Frag) : List V → Hp → VK → Prop := fun xs H Q => ∃ p ys, xs = [.ref p] ∧ ((SqL K H p ys ∧ ∀ l, H l = none → Q (.ref l) (upd H l (.tup ys))) ∨ (SqT K H p ys ∧ Q (.ref p) H))
def rAbs : List V → Hp → VK → Prop := fun xs H Q => ∃ i, xs = [.int i] ∧ Q (.int (if i < 0 then -i else i)) H
def rInt1 : List V → Hp → VK → Prop := fun xs H Q => (∃ i, xs = [.int i] ∧ Q (.int i) H) ∨ ∃ k, xs = [.bl k] ∧ Q (.int (if k then 1 else 0)) H
def rMin2 : List V → Hp → VK → Prop := fun xs H Q => ∃ i j, xs = [.int i, .int j] ∧ Q (.int (if j < i then j else i)) H
def rMax2 : List V → Hp → VK → Prop := fun xs H Q => ∃ i j, xs = [.int i, .int j] ∧ Q (.int (if j > i then j else i)) H
section
variable {X : Cx}
theorem call_min2E (hc : X.calm = true) : CallR X (.builtin "min") rMin2 := call_min2 hc
theorem call_max2E (hc : X.calm = true) : CallR X (.builtin "max") rMax2 := call_max2 hc
theorem call_absE : CallR X (.builtin "abs") rAbs := call_abs
theorem call_intE : CallR X (.type "int") rInt1 := call_int1
theorem call_isiE (K : PySem.W.Frag) (e : X.K = K := by rfl) : CallR X (.builtin "isinstance") (rIsi K) := by rw [← e]; exact call_isi
theorem call_lenE (K : PySem.W.Frag) (e : X.K = K := by rfl) : CallR X (.builtin "len") (rLenK K) := by rw [← e]; exact call_len
theorem call_listE (K : PySem.W.Frag) (e : X.K = K := by rfl) : CallR X (.type "list") (rListK K) := by rw [← e]; exact call_list_of
theorem call_tupleE (K : PySem.W.Frag) (e : X.K = K := by rfl) : CallR X (.type "tuple") (rTupleK K) := by rw [← e]; exact call_tuple_of
theorem ix_listE (K : PySem.W.Frag) (e : X.K = K := by rfl) : IxR X (rIxL K) := by rw [← e]; exact ix_list
theorem ix_tupE (K : PySem.W.Frag) (e : X.K = K := by rfl) : IxR X (rIxT K) := by rw [← e]; exact ix_tup
theorem sl_listE (K : PySem.W.Frag) (e : X.K = K := by rfl) : SlR X (rSlL K) := by rw [← e]; exact sl_list
theorem op_inE (K : PySem.W.Frag) (e : X.K = K := by rfl) : OpR X (compareOp .In) (rIn K false) := by rw [← e]; exact op_in_seq
theorem op_notInE (K : PySem.W.Frag) (e : X.K = K := by rfl) : OpR X (compareOp .NotIn) (rIn K true) := by rw [← e]; exact op_notIn_seq
theorem op_eqDE (K : PySem.W.Frag) (hu : X.A.units + 64 < cLine) (e : X.K = K := by rfl) : OpR X (compareOp .Eq) (rEqD K) := by rw [← e]; exact op_eqD hu
theorem op_neDE (K : PySem.W.Frag) (hu : X.A.units + 64 < cLine) (e : X.K = K := by rfl) : OpR X (compareOp .NotEq) (rNeD K) := by rw [← e]; exact op_neD hu
theorem pi_listE (K : PySem.W.Frag) {tg l : Expr} {tl : TE} (hl : PE X l tl) (e : X.K = K := by rfl) : PI X tg l (iList K tl) := by rw [← e]; exact pi_list hl
theorem pi_tupE (K : PySem.W.Frag) {tg l : Expr} {tl : TE} (hl : PE X l tl) (e : X.K = K := by rfl) : PI X tg l (iTup K tl) := by rw [← e]; exact pi_tup hl
theorem pe_orTE (K : PySem.W.Frag) {a b : Expr} {ta tb : TE} {rest : List Expr} {pos : Pos} (ha : PE X a ta) (hb : PE X (.BoolOp .Or (b :: rest) pos) tb) (e : X.K = K := by rfl) : PE X (.BoolOp .Or (a :: b :: rest) pos) (tOrT K ta tb) := by rw [← e]; exact pe_orT ha hb
end
/-! ## the reading, step by step -/
def NewO (o : List V → HO) (xs : List V) (H : Hp) (Q : VK) : Prop := xs.length ≤ sizeLine ∧ ∀ p, H p = none → Q (.ref p) (upd H p (o xs))
section
variable {σ : L2.St} {H : Hp} {Q : VK} {v x y : V} {i : Nat} {ta tb te : TE} {D : Ends} {t u : TS} {c c' : TT} {a b : Int} {K : PySem.W.Frag} {p : Addr} {xs ys : List V}
theorem z_var (h : σ[i]? = some (some v)) (q : Q v H) : tVar i σ H Q := ⟨v, h, q⟩
theorem z_c (q : Q v H) : tC v σ H Q := q
theorem z_op {r : R2} (q : ta σ H fun x H1 => tb σ H1 fun y H2 => r x y H2 Q) : tOp r ta tb σ H Q := q
theorem z_un {r : V → Hp → VK → Prop} (q : ta σ H fun x H1 => r x H1 Q) : tUn r ta σ H Q := q
theorem z_I0 {g : Int → Int → V} (q : Q (g a b) H) : rI0 g (.int a) (.int b) H Q := ⟨a, b, rfl, rfl, q⟩
theorem z_I {C : Int → Int → Prop} {g : Int → Int → V} (hc : C a b) (q : Q (g a b) H) : rI C g (.int a) (.int b) H Q := ⟨a, b, rfl, rfl, hc, q⟩
theorem z_U {g : Int → V} (q : Q (g a) H) : rU g (.int a) H Q := ⟨a, rfl, q⟩
theorem z_eqI (q : Q (.bl (decide (a = b))) H) : rEq (.int a) (.int b) H Q := ⟨rfl, by
  have e : decide (V.int a = V.int b) = decide (a = b) := by
    by_cases h : a = b
    · rw [h, decide_eq_true rfl, decide_eq_true rfl]
    · rw [decide_eq_false h, decide_eq_false (fun z => h (V.int.inj z))]
  rw [e]
  exact q⟩
theorem z_neI (q : Q (.bl (!decide (a = b))) H) : rNe (.int a) (.int b) H Q := ⟨rfl, by
  have e : decide (V.int a = V.int b) = decide (a = b) := by
    by_cases h : a = b
    · rw [h, decide_eq_true rfl, decide_eq_true rfl]
    · rw [decide_eq_false h, decide_eq_false (fun z => h (V.int.inj z))]
  rw [e]
  exact q⟩
theorem z_eqB {k l : Bool} (q : Q (.bl (decide (k = l))) H) : rEq (.bl k) (.bl l) H Q := ⟨rfl, by
  have e : decide (V.bl k = V.bl l) = decide (k = l) := by
    cases k <;> cases l <;> rfl
  rw [e]
  exact q⟩
theorem z_neB {k l : Bool} (q : Q (.bl (!decide (k = l))) H) : rNe (.bl k) (.bl l) H Q := ⟨rfl, by
  have e : decide (V.bl k = V.bl l) = decide (k = l) := by
    cases k <;> cases l <;> rfl
  rw [e]
  exact q⟩
theorem z_isB {k l : Bool} (q : Q (.bl (decide (k = l))) H) : rIsB (.bl k) (.bl l) H Q := ⟨k, l, rfl, rfl, q⟩
theorem z_notB {k l : Bool} (q : Q (.bl (!decide (k = l))) H) : rNotB (.bl k) (.bl l) H Q := ⟨k, l, rfl, rfl, q⟩
theorem z_ixL (h : SqL K H p xs) (e : atI xs a = some v) (q : Q v H) : rIxL K (.ref p) (.int a) H Q := ⟨p, xs, a, v, rfl, rfl, h, e, q⟩
theorem z_ixT (h : SqT K H p xs) (e : atI xs a = some v) (q : Q v H) : rIxT K (.ref p) (.int a) H Q := ⟨p, xs, a, v, rfl, rfl, h, e, q⟩
theorem z_nil {Q : List V → Hp → Prop} (q : Q [] H) : tNil σ H Q := q
theorem z_cons {tr : TA} {Q : List V → Hp → Prop} (q : ta σ H fun x H1 => tr σ H1 fun xs H2 => Q (x :: xs) H2) : tCons ta tr σ H Q := q
theorem z_tup {tr : TA} (q : tr σ H fun xs H1 => NewO HO.tup xs H1 Q) : tTup tr σ H Q := q
theorem z_lst {tr : TA} (q : tr σ H fun xs H1 => NewO HO.lst xs H1 Q) : tLst tr σ H Q := q
theorem z_call {sp : Sp} {dvs : List V} {E : XK} {tr : TA} (q : tr σ H fun vs H1 => sp (vs ++ dvs) H1 Q E) : tCall sp dvs E tr σ H Q := q
theorem z_cb {r : List V → Hp → VK → Prop} {tr : TA} (q : tr σ H fun vs H1 => r vs H1 Q) : tCB r tr σ H Q := q
theorem z_andV (q : ta σ H fun x H1 => ∃ c, x = .bl c ∧ if c = true then tb σ H1 Q else Q (.bl false) H1) : tAndV ta tb σ H Q := q
theorem z_orV (q : ta σ H fun x H1 => ∃ c, x = .bl c ∧ if c = true then Q (.bl true) H1 else tb σ H1 Q) : tOrV ta tb σ H Q := q
theorem z_notV (q : ta σ H fun x H1 => ∃ c, x = .bl c ∧ Q (.bl (!c)) H1) : tNotV ta σ H Q := q
theorem z_orTi (q : if a = 0 then tb σ H Q else Q (.int a) H) : (∃ k, TruV K (.int a) H k ∧ if k = true then Q (.int a) H else tb σ H Q) := by
  refine ⟨a != 0, rfl, ?_⟩
  by_cases h : a = 0
  · rw [if_pos h] at q
    rw [h]
    exact iteF q
  · rw [if_neg h] at q
    have e : (a != 0) = true := by simpa using h
    rw [e]
    exact iteT q
/-- x or y: what stands behind is shown once -/
theorem z_orCut (Pv : Int → Hp → Prop) (ha : a ≠ 0 → Pv a H) (hQ : ∀ m H', Pv m H' → Q (.int m) H') (hb : a = 0 → ∀ Q' : VK, (∀ m H', Pv m H' → Q' (.int m) H') → tb σ H Q') : (∃ k, TruV K (.int a) H k ∧ if k = true then Q (.int a) H else tb σ H Q) := by
  refine z_orTi ?_
  by_cases h : a = 0
  · rw [if_pos h]
    exact hb h Q hQ
  · rw [if_neg h]
    exact hQ _ _ (ha h)
theorem z_orT (q : ta σ H fun x H1 => ∃ k, TruV K x H1 k ∧ if k = true then Q x H1 else tb σ H1 Q) : tOrT K ta tb σ H Q := q
theorem z_ebl {k : Bool} {P : Bool → Prop} (q : P k) : ∃ c, V.bl k = V.bl c ∧ P c := ⟨k, rfl, q⟩
theorem z_eint {P : Int → Prop} (q : P a) : ∃ c, V.int a = V.int c ∧ P c := ⟨a, rfl, q⟩
theorem z_test {Q : Bool → Hp → Prop} (q : te σ H fun x H' => ∃ k, x = .bl k ∧ Q k H') : tTest te σ H Q := q
theorem z_B {Q : Bool → Hp → Prop} (q : te σ H fun x H' => ∃ k, x = .bl k ∧ Q k H') : tB te σ H Q := q
theorem z_and {Q : Bool → Hp → Prop} (q : c σ H fun k H1 => if k = true then c' σ H1 Q else Q false H1) : tAnd c c' σ H Q := q
theorem z_or {Q : Bool → Hp → Prop} (q : c σ H fun k H1 => if k = true then Q true H1 else c' σ H1 Q) : tOr c c' σ H Q := q
theorem z_not {Q : Bool → Hp → Prop} (q : c σ H fun k H1 => Q (!k) H1) : tNot c σ H Q := q
theorem z_yes {Q : Bool → Hp → Prop} (q : Q true H) : tYes σ H Q := q
theorem z_seq (q : t { D with nx := u D } σ H) : tSeq t u D σ H := q
theorem z_next (q : D.nx σ H) : tNext D σ H := q
theorem z_asg {g : TG} (q : te σ H fun x H1 => g x σ H1 D.nx) : tAsg te g D σ H := q
theorem z_name {Q : L2.St → Hp → Prop} (q : Q (σ.set i (some v)) H) : gName i v σ H Q := q
theorem z_ret (q : te σ H D.rt) : tRet te D σ H := q
theorem z_retN (q : D.rt .non H) : tRetN D σ H := q
theorem z_drop (q : te σ H fun _ H1 => D.nx σ H1) : tDrop te D σ H := q
theorem z_if (q : c σ H fun k H1 => if k = true then t D σ H1 else u D σ H1) : tIfS c t u D σ H := q
theorem z_par {j : Nat} {tr : TA} (q : tr σ H fun vs H1 => ∃ v w, vs = [v, w] ∧ D.nx ((σ.set i (some v)).set j (some w)) H1) : tPar i j tr D σ H := q
theorem z_par2 {w : V} {P : V → V → Prop} (q : P v w) : ∃ v' w', [v, w] = [v', w'] ∧ P v' w' := ⟨v, w, rfl, q⟩
theorem z_gTup {n : Nat} {g : TGs} {Q : L2.St → Hp → Prop} (h : SqT K H p xs) (hl : xs.length = n) (q : g xs σ H Q) : gTup K n g (.ref p) σ H Q := ⟨p, xs, rfl, h, hl, q⟩
theorem z_gCons {g : TG} {gs : TGs} {Q : L2.St → Hp → Prop} (q : g v σ H fun σ' H' => gs xs σ' H' Q) : gCons g gs (v :: xs) σ H Q := ⟨v, xs, rfl, q⟩
theorem z_gNil {Q : L2.St → Hp → Prop} (q : Q σ H) : gNil [] σ H Q := ⟨rfl, q⟩
theorem z_gSub {to ti : TE} {ts : TSet} {Q : L2.St → Hp → Prop} (q : to σ H fun o H1 => ti σ H1 fun i H2 => ts o i v H2 fun H3 => Q σ H3) : gSub to ti ts v σ H Q := q
theorem z_setL {j : Nat} {Q : Hp → Prop} (h : H p = some (.lst xs)) (e : ixN xs.length a = some j) (q : Q (upd H p (.lst (xs.set j v)))) : rSetL (.ref p) (.int a) v H Q := ⟨p, xs, a, j, rfl, rfl, h, e, q⟩
theorem z_isi {n s : String} {k : Bool} (hx : TyX K H x (.type n)) (hk : kitB n s = some k) (q : Q (.bl k) H) : rIsi K [x, .ty s] H Q := ⟨x, .ty s, .type n, .type s, k, rfl, .ty s, hx, kit_ty hk, q⟩
theorem z_new {o : List V → HO} (hl : xs.length ≤ 1000) (q : ∀ p H', H p = none → Same H H' → H' p = some (o xs) → Q (.ref p) H') : NewO o xs H Q :=
  ⟨Nat.le_of_lt (small1000 hl), fun p hp => q p _ hp (fun b u e => by rw [upd_ne (ne_of_none e hp)]; exact e) upd_same⟩
theorem z_lenT (h : H p = some (.tup xs)) (q : Q (.int xs.length) H) : rLenK K [.ref p] H Q := ⟨_, xs.length, rfl, .inr ⟨xs, SqT.of h, rfl⟩, q⟩
theorem z_lenL (h : SqL K H p xs) (q : Q (.int xs.length) H) : rLenK K [.ref p] H Q := ⟨_, xs.length, rfl, .inl ⟨xs, h, rfl⟩, q⟩
theorem z_slL {lo hi : Option Int} (h : SqL K H p xs) (q : ∀ p' H', H p' = none → Same H H' → H' p' = some (.lst (cutV xs lo hi)) → Q (.ref p') H') : rSlL K (.ref p) lo hi H Q :=
  ⟨p, xs, rfl, h, fun p' hp => q p' _ hp (fun b u e => by rw [upd_ne (ne_of_none e hp)]; exact e) upd_same⟩
theorem z_cat {l l' : Addr} (h : H l = some (.lst xs)) (h' : H l' = some (.lst ys)) (hl : xs.length + ys.length ≤ 1000) (q : ∀ p' H', H p' = none → Same H H' → H' p' = some (.lst (xs ++ ys)) → Q (.ref p') H') : rCat (.ref l) (.ref l') H Q :=
  ⟨l, l', xs, ys, rfl, rfl, h, h', Nat.le_of_lt (small1000 hl), fun p' hp => q p' _ hp (fun b u e => by rw [upd_ne (ne_of_none e hp)]; exact e) upd_same⟩
theorem z_eqD {d e : PyData} {k : Bool} (h : Dp K H x d) (h' : Dp K H y e) (s : SeqAt.shaped d = true) (s' : SeqAt.shaped e = true) (hk : PyData.eqv d e = k) (q : Q (.bl k) H) : rEqD K x y H Q := ⟨d, e, h, h', s, s', by rw [hk]; exact q⟩
theorem z_neD {d e : PyData} {k : Bool} (h : Dp K H x d) (h' : Dp K H y e) (s : SeqAt.shaped d = true) (s' : SeqAt.shaped e = true) (hk : PyData.eqv d e = k) (q : Q (.bl (!k)) H) : rNeD K x y H Q := ⟨d, e, h, h', s, s', by rw [hk]; exact q⟩
theorem z_min2 {m n : Nat} (q : Q (.int ((min m n : Nat) : Int)) H) : rMin2 [.int (m : Int), .int (n : Int)] H Q := ⟨m, n, rfl, by
  have e : (if (n : Int) < (m : Int) then (n : Int) else (m : Int)) = ((min m n : Nat) : Int) := by split <;> omega
  rw [e]
  exact q⟩
theorem z_max2 {m n : Nat} (q : Q (.int ((max m n : Nat) : Int)) H) : rMax2 [.int (m : Int), .int (n : Int)] H Q := ⟨m, n, rfl, by
  have e : (if (n : Int) > (m : Int) then (n : Int) else (m : Int)) = ((max m n : Nat) : Int) := by split <;> omega
  rw [e]
  exact q⟩
theorem z_intB {k : Bool} (q : Q (.int (if k then 1 else 0)) H) : rInt1 [.bl k] H Q := .inr ⟨k, rfl, q⟩
theorem z_abs (q : Q (.int (a.natAbs : Int)) H) : rAbs [.int a] H Q := ⟨a, rfl, by
  have e : (if a < 0 then -a else a) = (a.natAbs : Int) := by split <;> omega
  rw [e]
  exact q⟩
theorem z_pow (h : CPow a b) (q : Q (.int (a ^ b.toNat)) H) : rI CPow (fun i j => .int (i ^ j.toNat)) (.int a) (.int b) H Q := ⟨a, b, rfl, rfl, h, q⟩
theorem z_modN (h : b ≠ 0) (q : Q (.int (a.fmod b)) H) : rI (fun _ j => j ≠ 0) (fun i j => .int (i.fmod j)) (.int a) (.int b) H Q := ⟨a, b, rfl, rfl, h, q⟩
theorem z_mulA (h : CMulA a b) (q : Q (.int (a * b)) H) : rI CMulA (fun i j => .int (i * j)) (.int a) (.int b) H Q := ⟨a, b, rfl, rfl, h, q⟩
theorem z_fdivA (h : CDivA a b) (q : Q (.int (a.fdiv b)) H) : rI CDivA (fun i j => .int (i.fdiv j)) (.int a) (.int b) H Q := ⟨a, b, rfl, rfl, h, q⟩
theorem z_shlA (h : CShl a b) (q : Q (.int (a * 2 ^ b.toNat)) H) : rI CShl (fun i j => .int (i * 2 ^ j.toNat)) (.int a) (.int b) H Q := ⟨a, b, rfl, rfl, h, q⟩
theorem z_shrA (h : 0 ≤ b) (q : Q (.int (a / 2 ^ b.toNat)) H) : rI (fun _ j => 0 ≤ j) (fun i j => .int (i / 2 ^ j.toNat)) (.int a) (.int b) H Q := ⟨a, b, rfl, rfl, h, q⟩
theorem z_for {wi : TI} {g : TG} {tb : TS} (q : wi σ H fun J H1 => ∃ W : Nat → Nat → L2.St → Hp → Prop, (∃ m, W 0 m σ H1) ∧ ∀ i m σ H, W i m σ H →
  (J.stop i H ∧ D.nx σ H) ∨ (J.go i H ∧ ∃ N : L2.St → Hp → Prop, (∀ σ' H', N σ' H' → ∃ m', m' < m ∧ W (i + 1) m' σ' H') ∧ ∀ x H', J.yld i H x H' → g x σ H' fun σ2 H2 => tb { D with nx := N, ct := N, bk := D.nx } σ2 H2)) : tFor wi g tb D σ H := q
theorem z_rng1 {tr : TA} {R : It → Hp → Prop} (q : tr σ H fun vs H1 => ∃ j : Int, vs = [.int j] ∧ -(2 ^ 62) ≤ j ∧ j < 2 ^ 62 ∧ R (Itr 0 j.toNat) H1) : iRng1 tr σ H R := q
theorem z_iL {R : It → Hp → Prop} (q : te σ H fun x H1 => ∃ a, x = .ref a ∧ (∃ xs, SqL K H1 a xs) ∧ R (Itl K a) H1) : iList K te σ H R := q
theorem z_iT {R : It → Hp → Prop} (q : te σ H fun x H1 => ∃ a, x = .ref a ∧ (∃ xs, SqT K H1 a xs) ∧ R (Itt K a) H1) : iTup K te σ H R := q
theorem z_bm {T : String} {r : V → List V → Hp → VK → Prop} {to : TE} {tr : TA} (q : to σ H fun x H1 => tyV K T x H1 ∧ tr σ H1 fun xs H2 => r x xs H2 Q) : tBM K T r to tr σ H Q := q
theorem z_bits (q : te σ H fun x H1 => ∃ i, x = .int i ∧ Q (.int (Builtin.Int.intBits i : Nat)) H1) : tBits te σ H Q := q
theorem z_sl {r : V → Option Int → Option Int → Hp → VK → Prop} {tl th : TO} (q : te σ H fun x H1 => tl σ H1 fun l H2 => th σ H2 fun u H3 => r x l u H3 Q) : tSl r te tl th σ H Q := q
theorem z_noPart {Q : Option Int → Hp → Prop} (q : Q none H) : tNoPart σ H Q := q
theorem z_part {Q : Option Int → Hp → Prop} (q : te σ H fun x H1 => ∃ i, x = .int i ∧ Q (some i) H1) : tPart te σ H Q := q
theorem z_chain {r r' : R2} {tc : TE} (q : ta σ H fun x H1 => tb σ H1 fun y H2 => r x y H2 fun z H3 => ∃ k, z = .bl k ∧ (if k = true then tc σ H3 fun w' H4 => r' y w' H4 Q else Q (.bl false) H3)) : tChain r r' ta tb tc σ H Q := q
theorem z_itT {k : Bool} {A B : Prop} (e : k = true) (q : A) : if k = true then A else B := by rw [if_pos e]; exact q
theorem z_itF {k : Bool} {A B : Prop} (e : k = false) (q : B) : if k = true then A else B := by rw [e]; exact iteF q
/-- what stands behind is shown once -/
theorem cutT {σ : L2.St} {H : Hp} {t : TT} {Q : Bool → Hp → Prop} (Pv : Bool → Hp → Prop) (h : ∀ Q' : Bool → Hp → Prop, (∀ k H', Pv k H' → Q' k H') → t σ H Q') (hQ : ∀ k H', Pv k H' → Q k H') : t σ H Q := h Q hQ
theorem cutE {σ : L2.St} {H : Hp} {t : TE} {Q : VK} (Pv : V → Hp → Prop) (h : ∀ Q' : VK, (∀ k H', Pv k H' → Q' k H') → t σ H Q') (hQ : ∀ k H', Pv k H' → Q k H') : t σ H Q := h Q hQ
theorem cutS {σ : L2.St} {H : Hp} {t : TS} {D : Ends} (Pv : L2.St → Hp → Prop) (h : ∀ D' : Ends, (∀ σ' H', Pv σ' H' → D'.nx σ' H') → D'.rt = D.rt → D'.bk = D.bk → D'.ct = D.ct → t D' σ H) (hQ : ∀ σ' H', Pv σ' H' → D.nx σ' H') : t D σ H := h D hQ rfl rfl rfl
theorem sz {n : Nat} (h : n ≤ 1000) : n ≤ sizeLine := Nat.le_of_lt (small1000 h)
theorem z_ite {P : Prop} {A B : Prop} [Decidable P] (h1 : P → A) (h2 : ¬ P → B) : if decide P = true then A else B := by
  by_cases h : P
  · rw [decide_eq_true h]
    exact iteT (h1 h)
  · rw [decide_eq_false h]
    exact iteF (h2 h)
theorem z_nite {P : Prop} {A B : Prop} [Decidable P] (h1 : ¬ P → A) (h2 : P → B) : if (!decide P) = true then A else B := by
  by_cases h : P
  · rw [decide_eq_true h]
    exact iteF (h2 h)
  · rw [decide_eq_false h]
    exact iteT (h1 h)
end
/-! ## the source of draws: a list of three ints; all else stays -/
def Src (H : Hp) (s : Addr) : Prop := ∃ a b c : Int, H s = some (.lst [.int a, .int b, .int c])
structure Dr (s : Addr) (H H' : Hp) : Prop where
  keep : ∀ a o, a ≠ s → H a = some o → H' a = some o
  src : Src H' s
  src0 : Src H s
theorem Dr.trans {s : Addr} {H H1 H2 : Hp} (a : Dr s H H1) (b : Dr s H1 H2) : Dr s H H2 := ⟨fun x o n h => b.keep x o n (a.keep x o n h), b.src, a.src0⟩
theorem Dr.refl {s : Addr} {H : Hp} (h : Src H s) : Dr s H H := ⟨fun _ _ _ h => h, h, h⟩
theorem Src.same {s : Addr} {H H' : Hp} (h : Src H s) (e : Same H H') : Src H' s := by
  obtain ⟨a, b, c, h⟩ := h
  exact ⟨a, b, c, e _ _ h⟩
theorem Src.ne {s p : Addr} {H : Hp} (h : Src H s) (n : H p = none) : p ≠ s := by
  obtain ⟨a, b, c, h⟩ := h
  intro z
  rw [z, h] at n
  cases n
theorem Dr.of_same {s : Addr} {H H' : Hp} (h : Src H s) (e : Same H H') : Dr s H H' := ⟨fun a o _ h => e a o h, h.same e, h⟩
theorem Dr.tup {s a : Addr} {H H' : Hp} {xs : List V} (d : Dr s H H') (ht : H a = some (.tup xs)) : H' a = some (.tup xs) := by
  obtain ⟨x, y, z, h⟩ := d.src0
  exact d.keep a _ (ne_of ht h (by intro q; cases q)) ht
theorem Dr.frz {s a : Addr} {H H' : Hp} {o : Obj} {u : HO} (d : Dr s H H') (ht : H a = some (.frz o u)) : H' a = some (.frz o u) := by
  obtain ⟨x, y, z, h⟩ := d.src0
  exact d.keep a _ (ne_of ht h (by intro q; cases q)) ht
theorem same_get {H H' : Hp} {a : Addr} {o : HO} (e : Same H H') (h : H a = some o) : H' a = some o := e a o h
theorem dpPair {K : PySem.W.Frag} {H : Hp} {p : Addr} {x y : Int} (h : H p = some (.tup [.int x, .int y])) : Dp K H (.ref p) (.tuple [.int x, .int y]) := .tup (SqT.of h) (.cons (.int x) (.cons (.int y) .nil))
theorem shPair (x y : Int) : SeqAt.shaped (.tuple [.int x, .int y]) = true := rfl
theorem eqvPair (x y x' y' : Int) : PyData.eqv (.tuple [.int x, .int y]) (.tuple [.int x', .int y']) = (decide (x = x') && decide (y = y')) := by
  by_cases h : x = x' <;> by_cases h' : y = y' <;> simp [PyData.eqv, PyData.eqvAll, h, h']
theorem eqvPair_of {x y x' y' : Int} (h : x = x') (h' : y = y') : PyData.eqv (.tuple [.int x, .int y]) (.tuple [.int x', .int y']) = true := by
  rw [eqvPair, decide_eq_true h, decide_eq_true h']
  rfl
theorem bool_bl {k l : Bool} (e : k = l) {Q : VK} {H : Hp} (q : Q (.bl l) H) : Q (.bl k) H := by rw [e]; exact q
end Zk
set_option Elab.async false
set_option linter.all false
set_option maxRecDepth 100000
set_option maxHeartbeats 2000000
namespace Zk
open PySem PySem.Spec PyProof.Rows L2
/-! ## pairs: the mathematics -/
def dvs (n d : Int) : Int := if d < 0 then -(Nat.gcd n.natAbs d.natAbs : Int) else (Nat.gcd n.natAbs d.natAbs : Int)
def pn (n d : Int) : Int := n.fdiv (dvs n d)
def pd (n d : Int) : Int := d.fdiv (dvs n d)
theorem gcd_pos {n d : Int} (h : d ≠ 0) : 0 < Nat.gcd n.natAbs d.natAbs := Nat.gcd_pos_of_pos_right _ (by omega)
theorem dvs_ne {n d : Int} (h : d ≠ 0) : dvs n d ≠ 0 := by
  have := gcd_pos (n := n) h
  unfold dvs
  split <;> omega
theorem dvs_abs (n d : Int) : (dvs n d).natAbs = Nat.gcd n.natAbs d.natAbs := by
  unfold dvs
  split <;> omega
theorem dvs_l (n d : Int) : dvs n d ∣ n := by
  rw [← Int.natAbs_dvd_natAbs, dvs_abs]
  exact Nat.gcd_dvd_left _ _
theorem dvs_r (n d : Int) : dvs n d ∣ d := by
  rw [← Int.natAbs_dvd_natAbs, dvs_abs]
  exact Nat.gcd_dvd_right _ _
theorem pn_mul (n d : Int) : pn n d * dvs n d = n := Int.fdiv_mul_cancel (dvs_l n d)
theorem pd_mul (n d : Int) : pd n d * dvs n d = d := Int.fdiv_mul_cancel (dvs_r n d)
theorem pn_abs (n d : Int) : (pn n d).natAbs * Nat.gcd n.natAbs d.natAbs = n.natAbs := by
  have h := congrArg Int.natAbs (pn_mul n d)
  rw [Int.natAbs_mul, dvs_abs] at h
  exact h
theorem pd_abs (n d : Int) : (pd n d).natAbs * Nat.gcd n.natAbs d.natAbs = d.natAbs := by
  have h := congrArg Int.natAbs (pd_mul n d)
  rw [Int.natAbs_mul, dvs_abs] at h
  exact h
theorem pd_pos {n d : Int} (h : d ≠ 0) : 0 < pd n d := by
  have e := pd_mul n d
  have g := gcd_pos (n := n) h
  unfold dvs at e
  by_cases hd : d < 0
  · rw [if_pos hd] at e
    rcases (show 0 < pd n d ∨ pd n d ≤ 0 by omega) with q | q
    · exact q
    · exfalso
      have : 0 ≤ pd n d * -(Nat.gcd n.natAbs d.natAbs : Int) := Int.mul_nonneg_of_nonpos_of_nonpos q (by omega)
      omega
  · rw [if_neg hd] at e
    rcases (show 0 < pd n d ∨ pd n d ≤ 0 by omega) with q | q
    · exact q
    · exfalso
      have : pd n d * (Nat.gcd n.natAbs d.natAbs : Int) ≤ 0 := Int.mul_nonpos_of_nonpos_of_nonneg q (by omega)
      omega
theorem pr_cross (n d : Int) : pn n d * d = n * pd n d := by
  have e1 := pn_mul n d
  have e2 := pd_mul n d
  calc pn n d * d = pn n d * (pd n d * dvs n d) := by rw [e2]
    _ = (pn n d * dvs n d) * pd n d := by rw [Int.mul_comm (pd n d), Int.mul_assoc]
    _ = n * pd n d := by rw [e1]
theorem pr_gcd {n d : Int} (h : d ≠ 0) : Nat.gcd (pn n d).natAbs (pd n d).natAbs = 1 := by
  have g := gcd_pos (n := n) h
  have e := Nat.gcd_mul_right (pn n d).natAbs (Nat.gcd n.natAbs d.natAbs) (pd n d).natAbs
  rw [pn_abs, pd_abs] at e
  exact Nat.eq_of_mul_eq_mul_right g (by omega)
theorem pn_le {n d : Int} (h : d ≠ 0) : (pn n d).natAbs ≤ n.natAbs := by
  have g := gcd_pos (n := n) h
  have e := pn_abs n d
  have : (pn n d).natAbs * 1 ≤ (pn n d).natAbs * Nat.gcd n.natAbs d.natAbs := Nat.mul_le_mul_left _ g
  omega
theorem pd_le {n d : Int} (h : d ≠ 0) : (pd n d).natAbs ≤ d.natAbs := by
  have g := gcd_pos (n := n) h
  have e := pd_abs n d
  have : (pd n d).natAbs * 1 ≤ (pd n d).natAbs * Nat.gcd n.natAbs d.natAbs := Nat.mul_le_mul_left _ g
  omega
/-- a pair in lowest terms -/
structure Low (x y : Int) : Prop where
  pos : 0 < y
  one : Nat.gcd x.natAbs y.natAbs = 1
theorem low_pair {n d : Int} (h : d ≠ 0) : Low (pn n d) (pd n d) := ⟨pd_pos h, pr_gcd h⟩
theorem low_eq {x y x' y' : Int} (h : Low x y) (h' : Low x' y') (e : x * y' = x' * y) : x = x' ∧ y = y' := by
  have ea := congrArg Int.natAbs e
  rw [Int.natAbs_mul, Int.natAbs_mul] at ea
  have d1 : y.natAbs ∣ y'.natAbs := by
    refine Nat.Coprime.dvd_of_dvd_mul_left (k := y.natAbs) (m := x.natAbs) (n := y'.natAbs) ?_ ?_
    · rw [Nat.Coprime, Nat.gcd_comm]
      exact h.one
    · exact ⟨x'.natAbs, by rw [ea, Nat.mul_comm]⟩
  have d2 : y'.natAbs ∣ y.natAbs := by
    refine Nat.Coprime.dvd_of_dvd_mul_left (k := y'.natAbs) (m := x'.natAbs) (n := y.natAbs) ?_ ?_
    · rw [Nat.Coprime, Nat.gcd_comm]
      exact h'.one
    · exact ⟨x.natAbs, by rw [← ea, Nat.mul_comm]⟩
  have ey := Nat.dvd_antisymm d1 d2
  have p1 := h.pos
  have p2 := h'.pos
  have ey2 : y = y' := by omega
  refine ⟨?_, ey2⟩
  rw [← ey2] at e
  exact Int.eq_of_mul_eq_mul_right (by omega) e
/-- a pair is told by its worth -/
theorem pair_eq {n d n' d' : Int} (h : d ≠ 0) (h' : d' ≠ 0) (e : n * d' = n' * d) : pn n d = pn n' d' ∧ pd n d = pd n' d' := by
  refine low_eq (low_pair h) (low_pair h') ?_
  have c1 := pr_cross n d
  have c2 := pr_cross n' d'
  have e2 : (pn n d * pd n' d') * (d * d') = (pn n' d' * pd n d) * (d * d') := by
    calc (pn n d * pd n' d') * (d * d') = (pn n d * d) * (d' * pd n' d') := by
          rw [Int.mul_comm d' (pd n' d'), Int.mul_assoc, Int.mul_assoc, ← Int.mul_assoc (pd n' d') d d', Int.mul_comm (pd n' d') d, Int.mul_assoc]
      _ = (n * pd n d) * (d' * pd n' d') := by rw [c1]
      _ = (n * d') * (pd n d * pd n' d') := by
          rw [Int.mul_assoc, Int.mul_assoc, ← Int.mul_assoc (pd n d) d', Int.mul_comm (pd n d) d', Int.mul_assoc]
      _ = (n' * d) * (pd n d * pd n' d') := by rw [e]
      _ = (n' * pd n' d') * (d * pd n d) := by
          rw [Int.mul_assoc, Int.mul_assoc, Int.mul_comm (pd n d) (pd n' d'), ← Int.mul_assoc d, Int.mul_comm d (pd n' d'), Int.mul_assoc]
      _ = (pn n' d' * d') * (d * pd n d) := by rw [c2]
      _ = (pn n' d' * pd n d) * (d * d') := by
          rw [Int.mul_assoc, Int.mul_assoc, Int.mul_comm d (pd n d), ← Int.mul_assoc d', Int.mul_comm d' (pd n d), Int.mul_assoc, Int.mul_comm d' d]
  exact Int.eq_of_mul_eq_mul_right (by
    intro z
    rcases Int.mul_eq_zero.mp z with q | q
    · exact h q
    · exact h' q) e2
/-- of a pair in lowest terms pair tells itself -/
theorem pair_self {x y : Int} (h : Low x y) : pn x y = x ∧ pd x y = y :=
  low_eq (low_pair (by have := h.pos; omega)) h (by rw [pr_cross])
theorem lt_pow {a b n : Nat} (h : a ≤ b) (hb : b < 2 ^ n) : a < 2 ^ n := Nat.lt_of_le_of_lt h hb
theorem pw_mono {a m n : Nat} (h : a < 2 ^ m) (hn : m ≤ n) : a < 2 ^ n := Nat.lt_of_lt_of_le h (Nat.pow_le_pow_right (by decide) hn)
theorem pw_mul {a b : Int} {m n : Nat} (ha : a.natAbs < 2 ^ m) (hb : b.natAbs < 2 ^ n) : (a * b).natAbs < 2 ^ (m + n) := wide_lt ha hb
theorem pw_add {a b : Int} {n : Nat} (ha : a.natAbs < 2 ^ n) (hb : b.natAbs < 2 ^ n) : (a + b).natAbs < 2 ^ (n + 1) := by
  rw [Nat.pow_succ]
  omega
theorem pw_sub {a b : Int} {n : Nat} (ha : a.natAbs < 2 ^ n) (hb : b.natAbs < 2 ^ n) : (a - b).natAbs < 2 ^ (n + 1) := by
  rw [Nat.pow_succ]
  omega
theorem ipow_le {c a b : Nat} (hc : 0 < c) (h : a ≤ b) : (c : Int) ^ a ≤ (c : Int) ^ b := by
  rw [← Int.natCast_pow, ← Int.natCast_pow]
  exact Int.ofNat_le.mpr (Nat.pow_le_pow_right hc h)
theorem fm2 (x : Nat) : (x : Int).fmod 2 = ((x % 2 : Nat) : Int) := by
  rw [Int.fmod_eq_emod_of_nonneg _ (by decide)]
  rfl
theorem sh1 (x : Nat) : (x : Int) / 2 ^ Int.toNat 1 = ((x / 2 : Nat) : Int) := rfl
theorem gcd_both {x y : Nat} (hx : x % 2 = 0) (hy : y % 2 = 0) : Nat.gcd x y = 2 * Nat.gcd (x / 2) (y / 2) := by
  have ex : x = 2 * (x / 2) := by omega
  have ey : y = 2 * (y / 2) := by omega
  rw [← Nat.gcd_mul_left, ← ex, ← ey]
theorem dvd_two {k : Nat} (h : k ∣ 2) : k = 1 ∨ k = 2 := by
  have : k ≤ 2 := Nat.le_of_dvd (by decide) h
  rcases (show k = 0 ∨ k = 1 ∨ k = 2 by omega) with rfl | rfl | rfl
  · exact absurd h (by decide)
  · exact .inl rfl
  · exact .inr rfl
theorem gcd_left {x y : Nat} (hx : x % 2 = 0) (hy : y % 2 = 1) : Nat.gcd (x / 2) y = Nat.gcd x y := by
  have ex : x = 2 * (x / 2) := by omega
  have c : Nat.Coprime 2 y := by
    unfold Nat.Coprime
    have := Nat.gcd_dvd_left 2 y
    have h2 : Nat.gcd 2 y ∣ y := Nat.gcd_dvd_right 2 y
    rcases (dvd_two this) with h | h
    · exact h
    · rw [h] at h2
      omega
  have h := Nat.Coprime.gcd_mul_left_cancel (x / 2) c
  rw [← ex] at h
  exact h.symm
theorem gcd_right {x y : Nat} (hx : x % 2 = 1) (hy : y % 2 = 0) : Nat.gcd x (y / 2) = Nat.gcd x y := by
  rw [Nat.gcd_comm x, Nat.gcd_comm x]
  exact gcd_left hy hx
theorem gcd_sub {x y : Nat} (h : y ≤ x) : Nat.gcd (x - y) y = Nat.gcd x y := Nat.gcd_sub_self_left h
/-- the while loops' tests pass on what they find -/
theorem mono_neI {i : Nat} {n : Int} {σ : L2.St} {H : Hp} {Q Q' : Bool → Hp → Prop} (hQ : ∀ b H1, Q b H1 → Q' b H1) (h : tTest (tOp rNe (tVar i) (tC (.int n))) σ H Q) : tTest (tOp rNe (tVar i) (tC (.int n))) σ H Q' := by
  obtain ⟨v, e, s, k, e2, q⟩ := h
  exact ⟨v, e, s, k, e2, hQ _ _ q⟩
end Zk
set_option Elab.async false
set_option linter.all false
set_option maxRecDepth 100000
set_option maxHeartbeats 2000000
namespace Zk
open PySem PySem.Spec PyProof.Rows L2
/-! ## parts: the mathematics -/
def partF : Nat → Int → Int × Nat
  | 0, n => (n, 0)
  | e + 1, n => if n % 2 = 0 then partF e (n / 2) else (n, e + 1)
theorem and_odd (k : Nat) : (2 * k + 1) &&& (2 * k) = 2 * k := by
  have h1 : ((2 * k + 1) &&& (2 * k)) / 2 = k := by
    rw [Nat.and_div_two, show (2 * k + 1) / 2 = k by omega, show 2 * k / 2 = k by omega, Nat.and_self]
  have h2 : ((2 * k + 1) &&& (2 * k)) % 2 = 0 := by
    rcases (show ((2 * k + 1) &&& (2 * k)) % 2 = 0 ∨ ((2 * k + 1) &&& (2 * k)) % 2 = 1 by omega) with h | h
    · exact h
    · have := (Nat.and_mod_two_eq_one.mp h).2
      omega
  omega
theorem and_even {k : Nat} (hk : 0 < k) : (2 * k) &&& (2 * k - 1) = 2 * (k &&& (k - 1)) := by
  have h1 : ((2 * k) &&& (2 * k - 1)) / 2 = (k &&& (k - 1)) := by
    rw [Nat.and_div_two, show 2 * k / 2 = k by omega, show (2 * k - 1) / 2 = k - 1 by omega]
  have h2 : ((2 * k) &&& (2 * k - 1)) % 2 = 0 := by
    rcases (show ((2 * k) &&& (2 * k - 1)) % 2 = 0 ∨ ((2 * k) &&& (2 * k - 1)) % 2 = 1 by omega) with h | h
    · exact h
    · have := (Nat.and_mod_two_eq_one.mp h).1
      omega
  omega
theorem low_bit : ∀ (b n : Nat), n ≤ b → 0 < n → ∃ v m : Nat, n = 2 ^ v * (2 * m + 1) ∧ n - (n &&& (n - 1)) = 2 ^ v ∧ (n &&& (n - 1)) ≤ n
  | 0, n, h, h0 => by omega
  | b + 1, n, h, h0 => by
    rcases (show n % 2 = 1 ∨ n % 2 = 0 by omega) with ho | he
    · refine ⟨0, n / 2, by omega, ?_, ?_⟩
      · have e := and_odd (n / 2)
        rw [show 2 * (n / 2) + 1 = n by omega, show 2 * (n / 2) = n - 1 by omega] at e
        rw [e]
        omega
      · exact Nat.and_le_left
    · obtain ⟨v, m, e1, e2, e3⟩ := low_bit b (n / 2) (by omega) (by omega)
      refine ⟨v + 1, m, ?_, ?_, Nat.and_le_left⟩
      · rw [Nat.pow_succ, Nat.mul_comm (2 ^ v) 2, Nat.mul_assoc, ← e1]
        omega
      · have e := and_even (k := n / 2) (by omega)
        rw [show 2 * (n / 2) = n by omega] at e
        rw [e, Nat.pow_succ, ← e2]
        omega
theorem bits_low {x : Int} (hx : x ≠ 0) : ∃ (v : Nat) (m : Int), x = 2 ^ v * m ∧ m % 2 = 1 ∧ Builtin.Int.intBits (Builtin.bitAnd x (-x)) = v + 1 := by
  obtain ⟨v, m, e1, e2, e3⟩ := low_bit x.natAbs x.natAbs (Nat.le_refl _) (by omega)
  have ea : Builtin.bitAnd x (-x) = ((2 ^ v : Nat) : Int) := by
    rcases (show 0 < x ∨ x < 0 by omega) with h | h
    · rw [bitAnd_pn (by omega) (by omega)]
      have e : (Builtin.bitNot (-x)).toNat = x.natAbs - 1 := by
        unfold Builtin.bitNot
        omega
      rw [e, show x.toNat = x.natAbs by omega, ← e2]
      omega
    · rw [bitAnd_np (by omega) (by omega)]
      have e : (Builtin.bitNot x).toNat = x.natAbs - 1 := by
        unfold Builtin.bitNot
        omega
      rw [e, show (-x).toNat = x.natAbs by omega, ← e2]
      omega
  have p0 : 0 < 2 ^ v := Nat.pow_pos (by decide)
  have eb : Builtin.Int.intBits (Builtin.bitAnd x (-x)) = v + 1 := by
    rw [ea]
    unfold Builtin.Int.intBits
    rw [if_neg (show ¬ ((((2 ^ v : Nat) : Int) == 0) = true) from fun z => by
      have := eq_of_beq z
      omega), Int.natAbs_natCast, Nat.log2_two_pow]
  have ec : ((2 : Int) ^ v) = ((2 ^ v : Nat) : Int) := by rw [Int.natCast_pow]; rfl
  rcases (show 0 < x ∨ x < 0 by omega) with h | h
  · refine ⟨v, 2 * (m : Int) + 1, ?_, by omega, eb⟩
    have : x = (x.natAbs : Int) := by omega
    rw [this, e1, Int.natCast_mul, ec]
    rfl
  · refine ⟨v, -(2 * (m : Int) + 1), ?_, by omega, eb⟩
    have : x = -(x.natAbs : Int) := by omega
    rw [this, e1, Int.natCast_mul, ec, Int.mul_neg]
    rfl
theorem partF_zero (e : Nat) : partF e 0 = (0, 0) := by
  induction e with
  | zero => rfl
  | succ e ih => exact ih
theorem two_even (v : Nat) (m : Int) : (2 ^ (v + 1) * m) % 2 = 0 ∧ (2 ^ (v + 1) * m) / 2 = 2 ^ v * m := by
  have e : (2 : Int) ^ (v + 1) * m = 2 * (2 ^ v * m) := by
    rw [Int.pow_succ, Int.mul_comm (2 ^ v) 2, Int.mul_assoc]
  rw [e]
  omega
theorem partF_val : ∀ (e v : Nat) (m : Int), m % 2 = 1 → partF e (2 ^ v * m) = ((2 ^ v * m) / 2 ^ (min v e), e - min v e)
  | 0, v, m, h => by
    rw [Nat.min_zero, Int.pow_zero, Int.ediv_one]
    rfl
  | e + 1, 0, m, h => by
    unfold partF
    rw [Int.pow_zero, Int.one_mul, if_neg (by omega), Nat.zero_min, Int.pow_zero, Int.ediv_one]
    rfl
  | e + 1, v + 1, m, h => by
    unfold partF
    rw [if_pos (two_even v m).1, (two_even v m).2, partF_val e v m h, Nat.succ_min_succ]
    refine Prod.ext ?_ ?_
    · show 2 ^ v * m / 2 ^ min v e = 2 ^ (v + 1) * m / 2 ^ (min v e + 1)
      rw [Int.pow_succ, Int.pow_succ, Int.mul_comm (2 ^ v) 2, Int.mul_comm (2 ^ min v e) 2, Int.mul_assoc, Int.mul_ediv_mul_of_pos _ _ (by decide)]
    · show e - min v e = e + 1 - (min v e + 1)
      omega
theorem partF_shift (e k : Nat) (n : Int) : partF (e + k) (n * 2 ^ k) = partF e n := by
  induction k with
  | zero => rw [Int.pow_zero, Int.mul_one]; rfl
  | succ k ih =>
    show (if (n * 2 ^ (k + 1)) % 2 = 0 then partF (e + k) ((n * 2 ^ (k + 1)) / 2) else (n * 2 ^ (k + 1), e + k + 1)) = partF e n
    have e1 : n * 2 ^ (k + 1) = 2 * (n * 2 ^ k) := by
      rw [Int.pow_succ, ← Int.mul_assoc, Int.mul_comm]
    rw [if_pos (by rw [e1]; omega), show n * 2 ^ (k + 1) / 2 = n * 2 ^ k by rw [e1]; omega]
    exact ih
theorem partF_is : ∀ (e : Nat) (n : Int), (partF e n).2 = 0 ∨ (partF e n).1 % 2 = 1
  | 0, n => .inl rfl
  | e + 1, n => by
    unfold partF
    by_cases h : n % 2 = 0
    · rw [if_pos h]
      exact partF_is e _
    · rw [if_neg h]
      right
      show n % 2 = 1
      omega
theorem partF_le : ∀ (e : Nat) (n : Int), (partF e n).1.natAbs ≤ n.natAbs ∧ (partF e n).2 ≤ e
  | 0, n => ⟨Nat.le_refl _, Nat.le_refl _⟩
  | e + 1, n => by
    unfold partF
    by_cases h : n % 2 = 0
    · rw [if_pos h]
      have := partF_le e (n / 2)
      omega
    · rw [if_neg h]
      exact ⟨Nat.le_refl _, Nat.le_refl _⟩
/-- what is a part already stays -/
theorem partF_id {e : Nat} {n : Int} (h : e = 0 ∨ n % 2 = 1) : partF e n = (n, e) := by
  cases e with
  | zero => rfl
  | succ e =>
    unfold partF
    rw [if_neg (by omega)]
theorem sum_shift (a b : Int) (e1 e2 : Nat) : partF (max e1 e2) (a * 2 ^ (max e1 e2 - e1) + b * 2 ^ (max e1 e2 - e2)) = partF (e1 + e2) (a * 2 ^ e2 + b * 2 ^ e1) := by
  have h1 : max e1 e2 + min e1 e2 = e1 + e2 := by omega
  rw [← partF_shift (max e1 e2) (min e1 e2), h1, Int.add_mul, Int.mul_assoc, Int.mul_assoc, ← Int.pow_add, ← Int.pow_add, show max e1 e2 - e1 + min e1 e2 = e2 by omega, show max e1 e2 - e2 + min e1 e2 = e1 by omega]
theorem bits_least {n c : Nat} (h : n < 2 ^ c) (h' : ∀ d, d < c → 2 ^ d ≤ n) : Builtin.Int.intBits (n : Int) = c := by
  unfold Builtin.Int.intBits
  by_cases h0 : n = 0
  · subst h0
    rw [if_pos (show ((((0 : Nat) : Int) == 0) = true) from rfl)]
    cases c with
    | zero => rfl
    | succ c => have := h' 0 (by omega); simp at this
  · rw [if_neg (show ¬ (((n : Int) == 0) = true) from fun z => by
      have := eq_of_beq z
      omega), Int.natAbs_natCast]
    cases c with
    | zero => simp at h; omega
    | succ c =>
      have h1 := h' c (by omega)
      have := (Nat.log2_eq_iff h0 (k := c)).mpr ⟨h1, h⟩
      omega
end Zk
local macro_rules | `(tactic| walk_at "z0") => `(tactic| first
  | ((with_reducible refine Zk.z_var (v := ?zv) ?zh ?_); (case zh => exact rfl))
  | (with_reducible refine Zk.z_c ?_)
  | (with_reducible refine Zk.z_op ?_)
  | (with_reducible refine Zk.z_un ?_)
  | (with_reducible refine Zk.z_I0 ?_)
  | (with_reducible refine Zk.z_U ?_)
  | (with_reducible refine Zk.z_eqI ?_)
  | (with_reducible refine Zk.z_neI ?_)
  | (with_reducible refine Zk.z_eqB ?_)
  | (with_reducible refine Zk.z_neB ?_)
  | (with_reducible refine Zk.z_isB ?_)
  | (with_reducible refine Zk.z_notB ?_)
  | (with_reducible refine Zk.z_nil ?_)
  | (with_reducible refine Zk.z_cons ?_)
  | (with_reducible refine Zk.z_tup ?_)
  | (with_reducible refine Zk.z_lst ?_)
  | (with_reducible refine Zk.z_call ?_)
  | (with_reducible refine Zk.z_cb ?_)
  | (with_reducible refine Zk.z_orV ?_)
  | (with_reducible refine Zk.z_notV ?_)
  | (with_reducible refine Zk.z_ebl ?_)
  | (with_reducible refine Zk.z_eint ?_)
  | (with_reducible refine Zk.z_test ?_)
  | (with_reducible refine Zk.z_B ?_)
  | (with_reducible refine Zk.z_or ?_)
  | (with_reducible refine Zk.z_not ?_)
  | (with_reducible refine Zk.z_yes ?_)
  | (with_reducible refine Zk.z_seq ?_)
  | (with_reducible refine Zk.z_next ?_)
  | (with_reducible refine Zk.z_asg ?_)
  | (with_reducible refine Zk.z_name ?_)
  | (with_reducible refine Zk.z_ret ?_)
  | (with_reducible refine Zk.z_retN ?_)
  | (with_reducible refine Zk.z_drop ?_)
  | (with_reducible refine Zk.z_if ?_)
  | (with_reducible refine Zk.z_par ?_)
  | (with_reducible refine Zk.z_par2 ?_)
  | (with_reducible refine Zk.z_gSub ?_)
  | (with_reducible refine Zk.z_gCons ?_)
  | (with_reducible refine Zk.z_gNil ?_)
  | ((with_reducible refine Zk.z_pow ?zh ?_); (case zh => exact ⟨by decide, by decide, by decide⟩))
  | ((with_reducible refine Zk.z_modN ?zh ?_); (case zh => first | decide | omega))
  | (with_reducible refine Zk.z_for ?_)
  | (with_reducible refine Zk.z_rng1 ?_)
  | (with_reducible refine Zk.z_iL ?_)
  | (with_reducible refine Zk.z_iT ?_)
  | (with_reducible refine Zk.z_bm ?_)
  | (with_reducible refine Zk.z_bits ?_)
  | (with_reducible refine Zk.z_sl ?_)
  | (with_reducible refine Zk.z_noPart ?_)
  | (with_reducible refine Zk.z_part ?_)
  | (with_reducible refine Zk.z_chain ?_)
  | (with_reducible refine Zk.z_abs ?_)
  | (with_reducible refine Zk.z_intB ?_)
  | (with_reducible refine L2.iteT ?_)
  | (with_reducible refine L2.iteF ?_)
  | ((with_reducible refine Zk.z_itT ?zh ?_); (case zh => exact rfl))
  | ((with_reducible refine Zk.z_itF ?zh ?_); (case zh => exact rfl)))
local macro_rules | `(tactic| walk_at "z") => `(tactic| first
  | (walk_at "z0")
  | (with_reducible refine Zk.z_andV ?_)
  | (with_reducible refine Zk.z_and ?_)
  | (with_reducible refine Zk.z_orT ?_))
local macro_rules | `(tactic| walk_at "zy") => `(tactic| repeat (walk_at "z0"))
local macro_rules | `(tactic| walk_at "zz") => `(tactic| repeat (walk_at "z"))
local macro_rules | `(tactic| walk_at "lk") => `(tactic| first
  | assumption
  | ((refine Zk.same_get (by assumption) ?_); walk_at "lk")
  | ((refine Zk.Dr.tup (by assumption) ?_); walk_at "lk"))
namespace Zl
open PySem PySem.Spec PyProof.Rows L2 Zk
def topS (i : Nat) : Stmt := PySem.Challenge.pw_sumtold_k05_parts_reckoned.main.body.getD i (.Pass ⟨0, 0, 0, 0⟩)
abbrev s_is_whole_number : Stmt := topS 1
theorem sc_is_whole_number : FnScope ["thing"] ["thing"] (defScope s_is_whole_number) := ⟨rfl, rfl, rfl, by decide +kernel, rfl, by decide +kernel, by decide +kernel⟩
abbrev s_is_two_whole_numbers : Stmt := topS 2
theorem sc_is_two_whole_numbers : FnScope ["thing"] ["thing"] (defScope s_is_two_whole_numbers) := ⟨rfl, rfl, rfl, by decide +kernel, rfl, by decide +kernel, by decide +kernel⟩
abbrev s_greatest_divisor : Stmt := topS 3
theorem sc_greatest_divisor : FnScope ["one", "other"] ["one", "other"] (defScope s_greatest_divisor) := ⟨rfl, rfl, rfl, by decide +kernel, rfl, by decide +kernel, by decide +kernel⟩
abbrev s_pair : Stmt := topS 4
theorem sc_pair : FnScope ["num", "den", "divisor"] ["num", "den"] (defScope s_pair) := ⟨rfl, rfl, rfl, by decide +kernel, rfl, by decide +kernel, by decide +kernel⟩
abbrev s_is_pair : Stmt := topS 5
theorem sc_is_pair : FnScope ["thing", "num", "den"] ["thing"] (defScope s_is_pair) := ⟨rfl, rfl, rfl, by decide +kernel, rfl, by decide +kernel, by decide +kernel⟩
abbrev s_part : Stmt := topS 6
theorem sc_part : FnScope ["num", "e", "twos", "dropped"] ["num", "e"] (defScope s_part) := ⟨rfl, rfl, rfl, by decide +kernel, rfl, by decide +kernel, by decide +kernel⟩
abbrev s_is_part : Stmt := topS 7
theorem sc_is_part : FnScope ["thing", "num", "e"] ["thing"] (defScope s_is_part) := ⟨rfl, rfl, rfl, by decide +kernel, rfl, by decide +kernel, by decide +kernel⟩
abbrev s_part_plus : Stmt := topS 8
theorem sc_part_plus : FnScope ["one", "other", "e"] ["one", "other"] (defScope s_part_plus) := ⟨rfl, rfl, rfl, by decide +kernel, rfl, by decide +kernel, by decide +kernel⟩
abbrev s_part_less : Stmt := topS 9
theorem sc_part_less : FnScope ["one", "other"] ["one", "other"] (defScope s_part_less) := ⟨rfl, rfl, rfl, by decide +kernel, rfl, by decide +kernel, by decide +kernel⟩
abbrev s_part_over : Stmt := topS 10
theorem sc_part_over : FnScope ["one", "other", "e"] ["one", "other"] (defScope s_part_over) := ⟨rfl, rfl, rfl, by decide +kernel, rfl, by decide +kernel, by decide +kernel⟩
abbrev s_halvings : Stmt := topS 11
theorem sc_halvings : FnScope ["many"] ["many"] (defScope s_halvings) := ⟨rfl, rfl, rfl, by decide +kernel, rfl, by decide +kernel, by decide +kernel⟩
abbrev s__law_cell_at : Stmt := topS 13
theorem sc__law_cell_at : FnScope ["_law_script", "_law_k"] ["_law_script", "_law_k"] (defScope s__law_cell_at) := ⟨rfl, rfl, rfl, by decide +kernel, rfl, by decide +kernel, by decide +kernel⟩
abbrev s__law_begin : Stmt := topS 14
theorem sc__law_begin : FnScope ["_law_cell"] ["_law_cell"] (defScope s__law_begin) := ⟨rfl, rfl, rfl, by decide +kernel, rfl, by decide +kernel, by decide +kernel⟩
abbrev s__law_draw : Stmt := topS 15
theorem sc__law_draw : FnScope ["_law_source", "_law_most", "_law_found", "_law_number"] ["_law_source", "_law_most"] (defScope s__law_draw) := ⟨rfl, rfl, rfl, by decide +kernel, rfl, by decide +kernel, by decide +kernel⟩
abbrev s__law_far : Stmt := topS 16
theorem sc__law_far : FnScope ["_law_source", "_law_way", "_law_small", "_law_great", "_law_k", "_law_twos"] ["_law_source"] (defScope s__law_far) := ⟨rfl, rfl, rfl, by decide +kernel, rfl, by decide +kernel, by decide +kernel⟩
abbrev s__law_part : Stmt := topS 17
theorem sc__law_part : FnScope ["_law_num", "_law_e"] ["_law_num", "_law_e"] (defScope s__law_part) := ⟨rfl, rfl, rfl, by decide +kernel, rfl, by decide +kernel, by decide +kernel⟩
abbrev s__law_whole : Stmt := topS 18
theorem sc__law_whole : FnScope ["_law_found", "_law_one"] ["_law_found"] (defScope s__law_whole) := ⟨rfl, rfl, rfl, by decide +kernel, rfl, by decide +kernel, by decide +kernel⟩
abbrev s__law_right : Stmt := topS 19
theorem sc__law_right : FnScope ["_law_one", "_law_other", "_law_e", "_law_mine", "_law_others", "_law_turn", "_law_found"] ["_law_one", "_law_other"] (defScope s__law_right) := ⟨rfl, rfl, rfl, by decide +kernel, rfl, by decide +kernel, by decide +kernel⟩
abbrev s__law_halvings : Stmt := topS 20
theorem sc__law_halvings : FnScope ["_law_many", "_law_found", "_law_power"] ["_law_many"] (defScope s__law_halvings) := ⟨rfl, rfl, rfl, by decide +kernel, rfl, by decide +kernel, by decide +kernel⟩
abbrev s_law : Stmt := topS 21
theorem sc_law : FnScope ["_law_script", "_law_cell", "_law_source", "_law_num", "_law_e", "_law_one", "_law_drawn", "_law_some", "_law_other", "_law_many", "_law_k"] ["_law_script"] (defScope s_law) := ⟨rfl, rfl, rfl, by decide +kernel, rfl, by decide +kernel, by decide +kernel⟩
section
variable {P : Program} {w : World} {K : PySem.W.Frag} {mg : Str → Option Value} {base : Heap}
def spGcd : Sp := fun vs H Q _ => ∃ a b : Int, vs = [.int a, .int b] ∧ Q (.int ((Nat.gcd a.natAbs b.natAbs : Nat) : Int)) H
theorem ok_greatest_divisor {f : Addr} {fd : FuncData} (F : FnP K "greatest_divisor" s_greatest_divisor f fd) (m_abs : mg "abs" = none) : FnOk P w K mg base CX0 1 f fd ["one", "other"] spGcd := by
  refine F.ok sc_greatest_divisor (fun vs H Q E h => ?_) (fun cdv A outer s H vs Q E hr h => ?_)
  · obtain ⟨a, b, rfl, _⟩ := h; rfl
  obtain ⟨a, b, rfl, q⟩ := h
  refine ⟨_, PSs.nox (pss_cons (ps_par (i := 0) (j := 1) (by rfl) sc_greatest_divisor.nd rfl rfl (by decide) rfl rfl (pa_cons (pe_callB call_absE (by rfl) m_abs (by decide +kernel) (pa_cons (pv 0) pa_nil)) (pa_cons (pe_callB call_absE (by rfl) m_abs (by decide +kernel) (pa_cons (pv 1) pa_nil)) pa_nil)) (by rfl))
  (pss_cons (ps_while PassesOwn.never (pt_cmpR op_ne (pv 1) pe_int (nomark _))
    (pss_one (ps_par (i := 0) (j := 1) (by rfl) sc_greatest_divisor.nd rfl rfl (by decide) rfl rfl (pa_cons (pv 1) (pa_cons (pe_op op_modN (pv 0) (pv 1)) pa_nil)) (by rfl))))
  (pss_one (ps_ret (pv 0))))), ?_⟩
  walk_at "zz"
  refine while_by (fun σ H' => ∃ n m : Nat, σ = [some (.int (n : Int)), some (.int (m : Int))] ∧ H' = H ∧ Nat.gcd n m = Nat.gcd a.natAbs b.natAbs) (fun σ _ => match σ with | [_, some (.int m)] => m.toNat | _ => 0) ⟨a.natAbs, b.natAbs, ?_, rfl, rfl⟩ ?_ ?_
  · rfl
  · rintro σ H' ⟨n, m, rfl, rfl, hg⟩
    walk_at "zz"
    refine z_nite (fun h0 => ?_) (fun h0 => ?_)
    · walk_at "zz"
      refine ⟨⟨m, n % m, ?_, rfl, ?_⟩, ?_⟩
      · rw [Int.fmod_eq_emod_of_nonneg _ (by omega), ← Int.natCast_emod]
        rfl
      · rw [← hg, Nat.gcd_comm m, ← Nat.gcd_rec, Nat.gcd_comm]
      · show (Int.fmod (n : Int) (m : Int)).toNat < ((m : Int)).toNat
        rw [Int.fmod_eq_emod_of_nonneg _ (by omega), ← Int.natCast_emod, Int.toNat_natCast, Int.toNat_natCast]
        exact Nat.mod_lt _ (by omega)
    · walk_at "zz"
      have e : m = 0 := by omega
      rw [e, Nat.gcd_zero_right] at hg
      rw [hg]
      exact q
  · intro σ H Q Q' hQ h
    exact mono_neI hQ h
def spPair (K : PySem.W.Frag) : Sp := fun vs H Q _ => ∃ n d : Int, vs = [.int n, .int d] ∧ d ≠ 0 ∧ d.natAbs < 2 ^ 8000 ∧ ∀ p H', H p = none → Same H H' → H' p = some (.tup [.int (pn n d), .int (pd n d)]) → Q (.ref p) H'
theorem ok_pair {f : Addr} {fd : FuncData} (F : FnP K "pair" s_pair f fd) (h_greatest_divisor : Has P w K mg base 1 "greatest_divisor" ["one", "other"] spGcd) : FnOk P w K mg base CX0 2 f fd ["num", "den"] (spPair K) := by
  refine F.ok sc_pair (fun vs H Q E h => ?_) (fun cdv A outer s H vs Q E hr h => ?_)
  · obtain ⟨n, d, rfl, _⟩ := h; rfl
  obtain ⟨n, d, rfl, h0, hb, q⟩ := h
  refine ⟨_, PSs.nox (pss_cons (ps_set (i := 2) sc_pair.nd rfl (.inl rfl) (pe_callH h_greatest_divisor (hr.mono (by decide)) (by rfl) (pa_cons (pv 0) (pa_cons (pv 1) pa_nil))))
  (pss_cons (ps_if (pt_cmpR op_lt (pv 1) pe_int (nomark _))
    (pss_one (ps_set (i := 2) sc_pair.nd rfl (.inl rfl) (pe_un un_neg (pv 2))))
    pss_nil)
  (pss_one (ps_ret (pe_tup (pa_cons (pe_op op_fdivA (pv 0) (pv 2)) (pa_cons (pe_op op_fdivA (pv 1) (pv 2)) pa_nil))))))), ?_⟩
  have hd : ∀ x : Int, CDivA x (dvs n d) := fun x => divA (n := 8000) (dvs_ne h0) (by
    rw [dvs_abs]
    exact Nat.lt_of_le_of_lt (Nat.gcd_le_right _ (by omega)) hb) (by decide) (by decide)
  have e : ∀ b : Bool, b = decide (d < 0) → dvs n d = if b = true then -((Nat.gcd n.natAbs d.natAbs : Nat) : Int) else ((Nat.gcd n.natAbs d.natAbs : Nat) : Int) := by
    intro b hb
    rw [hb]
    unfold dvs
    by_cases h : d < 0
    · rw [if_pos h, if_pos (decide_eq_true h)]
    · rw [if_neg h, if_neg (by simpa using h)]
  walk_at "zz"
  refine ⟨n, d, rfl, ?_⟩
  walk_at "zz"
  refine z_ite (fun h => ?_) (fun h => ?_)
  all_goals
    walk_at "zz"
    have ed := e _ rfl
    simp only [h, decide_true, decide_false, if_true, Bool.false_eq_true, if_false] at ed
    rw [← ed]
    refine z_I (hd _) ?_
    walk_at "zz"
    refine z_I (hd _) ?_
    walk_at "zz"
    exact z_new (by simp) q
def spWhole (K : PySem.W.Frag) : Sp := fun vs H Q _ => ∃ (x : V) (n : String) (a b : Bool), vs = [x] ∧ TyX K H x (.type n) ∧ kitB n "int" = some a ∧ kitB n "bool" = some b ∧ Q (.bl (a && !b)) H
theorem ok_is_whole_number {f : Addr} {fd : FuncData} (F : FnP K "is_whole_number" s_is_whole_number f fd) (m_isinstance : mg "isinstance" = none) (m_int : mg "int" = none) (m_bool : mg "bool" = none) : FnOk P w K mg base CX0 1 f fd ["thing"] (spWhole K) := by
  refine F.ok sc_is_whole_number (fun vs H Q E h => ?_) (fun cdv A outer s H vs Q E hr h => ?_)
  · obtain ⟨x, n, a, b, rfl, _⟩ := h; rfl
  obtain ⟨x, n, a, b, rfl, ty, ha, hb, q⟩ := h
  refine ⟨_, PSs.nox (pss_one (ps_ret (pe_and (pe_callB (call_isiE K) (by rfl) m_isinstance (by decide +kernel) (pa_cons (pv 0) (pa_cons (pe_bltn (v := .ty "int") (by rfl) m_int (by decide +kernel) rfl) pa_nil))) (pe_one (pe_not (pe_callB (call_isiE K) (by rfl) m_isinstance (by decide +kernel) (pa_cons (pv 0) (pa_cons (pe_bltn (v := .ty "bool") (by rfl) m_bool (by decide +kernel) rfl) pa_nil)))))))), ?_⟩
  walk_at "zz"
  refine z_isi ty ha ?_
  walk_at "zz"
  cases a with
  | true =>
    walk_at "zz"
    refine z_isi ty hb ?_
    walk_at "zz"
    exact q
  | false =>
    walk_at "zz"
    exact q
def WholeV (K : PySem.W.Frag) (H : Hp) (x : V) (k : Bool) : Prop := ∃ (n : String) (a b : Bool), TyX K H x (.type n) ∧ kitB n "int" = some a ∧ kitB n "bool" = some b ∧ k = (a && !b)
theorem wholeI {K : PySem.W.Frag} {H : Hp} (x : Int) : WholeV K H (.int x) true := ⟨"int", true, false, .base (.int x), by decide +kernel, by decide +kernel, rfl⟩
def spTwo (K : PySem.W.Frag) : Sp := fun vs H Q _ => ∃ x, vs = [x] ∧ ((∃ n, TyX K H x (.type n) ∧ kitB n "tuple" = some false ∧ Q (.bl false) H) ∨ ∃ p xs, x = .ref p ∧ H p = some (.tup xs) ∧ ((xs.length ≠ 2 ∧ Q (.bl false) H) ∨ ∃ v1 v2 k1 k2, xs = [v1, v2] ∧ WholeV K H v1 k1 ∧ WholeV K H v2 k2 ∧ Q (.bl (k1 && k2)) H))
theorem ok_is_two_whole_numbers {f : Addr} {fd : FuncData} (F : FnP K "is_two_whole_numbers" s_is_two_whole_numbers f fd) (m_isinstance : mg "isinstance" = none) (m_tuple : mg "tuple" = none) (m_len : mg "len" = none) (h_is_whole_number : Has P w K mg base 1 "is_whole_number" ["thing"] (spWhole K)) : FnOk P w K mg base CX0 2 f fd ["thing"] (spTwo K) := by
  refine F.ok sc_is_two_whole_numbers (fun vs H Q E h => ?_) (fun cdv A outer s H vs Q E hr h => ?_)
  · obtain ⟨x, rfl, _⟩ := h; rfl
  obtain ⟨x, rfl, h⟩ := h
  refine ⟨_, PSs.nox (pss_cons (ps_if (PW.pt (pw_or (pt_not (pt_val (pe_callB (call_isiE K) (by rfl) m_isinstance (by decide +kernel) (pa_cons (pv 0) (pa_cons (pe_bltn (v := .ty "tuple") (by rfl) m_tuple (by decide +kernel) rfl) pa_nil))))) (pw_or1 (pt_cmpR op_ne (pe_callB (call_lenE K) (by rfl) m_len (by decide +kernel) (pa_cons (pv 0) pa_nil)) pe_int (nomark _)))))
    (pss_one (ps_ret pe_bl))
    pss_nil)
  (pss_one (ps_ret (pe_and (pe_callH h_is_whole_number (hr.mono (by decide)) (by rfl) (pa_cons (pe_ix (ix_tupE K) (pv 0) pe_int (fun _ _ => rfl)) pa_nil)) (pe_one (pe_callH h_is_whole_number (hr.mono (by decide)) (by rfl) (pa_cons (pe_ix (ix_tupE K) (pv 0) pe_int (fun _ _ => rfl)) pa_nil))))))), ?_⟩
  walk_at "zz"
  rcases h with ⟨n, ty, hk, q⟩ | ⟨p, xs, rfl, hp, h⟩
  · refine z_isi ty hk ?_
    walk_at "zz"
    exact q
  · refine z_isi (n := "tuple") (k := true) (.base (.tup hp)) (by decide +kernel) ?_
    walk_at "zz"
    refine z_lenT hp ?_
    walk_at "zz"
    rcases h with ⟨hl, q⟩ | ⟨v1, v2, k1, k2, rfl, ⟨n1, a1, b1, t1, c1, e1, rfl⟩, ⟨n2, a2, b2, t2, c2, e2, rfl⟩, q⟩
    · refine z_nite (fun _ => ?_) (fun h => absurd h (by omega))
      walk_at "zz"
      exact q
    · refine z_nite (fun h => absurd rfl h) (fun _ => ?_)
      walk_at "zz"
      refine z_ixT (SqT.of hp) (v := v1) rfl ?_
      walk_at "zz"
      refine ⟨v1, n1, a1, b1, rfl, t1, c1, e1, ?_⟩
      walk_at "zz"
      cases hb : (a1 && !b1) with
      | true =>
        rw [hb] at q
        walk_at "zz"
        refine z_ixT (SqT.of hp) (v := v2) rfl ?_
        walk_at "zz"
        exact ⟨v2, n2, a2, b2, rfl, t2, c2, e2, q⟩
      | false =>
        rw [hb] at q
        walk_at "zz"
        exact q
def prB (x y : Int) : Bool := decide (0 < y) && decide (Nat.gcd x.natAbs y.natAbs = 1)
theorem prB_low {x y : Int} (h : Low x y) : prB x y = true := by
  unfold prB
  rw [decide_eq_true h.pos, decide_eq_true h.one]
  rfl
/-- what is_pair is asked of -/
def PairQ (K : PySem.W.Frag) (H : Hp) (x : V) (k : Bool) : Prop := (k = false ∧ ∃ n, TyX K H x (.type n) ∧ kitB n "tuple" = some false) ∨ ∃ p xs, x = .ref p ∧ H p = some (.tup xs) ∧ ((k = false ∧ xs.length ≠ 2) ∨ (∃ a b, xs = [.int a, .int b] ∧ k = prB a b) ∨ (k = false ∧ ∃ v1 v2 k1 k2, xs = [v1, v2] ∧ WholeV K H v1 k1 ∧ WholeV K H v2 k2 ∧ (k1 && k2) = false))
def spIsPair (K : PySem.W.Frag) : Sp := fun vs H Q _ => ∃ x k, vs = [x] ∧ PairQ K H x k ∧ Q (.bl k) H
theorem ok_is_pair {f : Addr} {fd : FuncData} (F : FnP K "is_pair" s_is_pair f fd) (h_is_two_whole_numbers : Has P w K mg base 2 "is_two_whole_numbers" ["thing"] (spTwo K)) (h_greatest_divisor : Has P w K mg base 1 "greatest_divisor" ["one", "other"] spGcd) : FnOk P w K mg base CX0 3 f fd ["thing"] (spIsPair K) := by
  refine F.ok sc_is_pair (fun vs H Q E h => ?_) (fun cdv A outer s H vs Q E hr h => ?_)
  · obtain ⟨x, k, rfl, _⟩ := h; rfl
  obtain ⟨x, k, rfl, h, q⟩ := h
  refine ⟨_, PSs.nox (pss_cons (ps_if (pt_not (pt_val (pe_callH h_is_two_whole_numbers (hr.mono (by decide)) (by rfl) (pa_cons (pv 0) pa_nil))))
    (pss_one (ps_ret pe_bl))
    pss_nil)
  (pss_cons (ps_asg (pv 0) (pg_tup rfl (pgs_cons (pg_name (i := 1) sc_is_pair.nd rfl (.inl rfl)) (pgs_cons (pg_name (i := 2) sc_is_pair.nd rfl (.inl rfl)) pgs_nil))))
  (pss_one (ps_ret (pe_and (pe_cmpR op_gt (pv 2) pe_int (nomark _)) (pe_one (pe_cmpR op_eq (pe_callH h_greatest_divisor (hr.mono (by decide)) (by rfl) (pa_cons (pv 1) (pa_cons (pv 2) pa_nil))) pe_int (nomark _)))))))), ?_⟩
  walk_at "zz"
  rcases h with ⟨rfl, n, ty, hk⟩ | ⟨p, xs, rfl, hp, ⟨rfl, hl⟩ | ⟨a, b, rfl, rfl⟩ | ⟨rfl, v1, v2, k1, k2, rfl, t1, t2, hk⟩⟩
  · refine ⟨x, rfl, .inl ⟨n, ty, hk, ?_⟩⟩
    walk_at "zz"
    exact q
  · refine ⟨.ref p, rfl, .inr ⟨p, xs, rfl, hp, .inl ⟨hl, ?_⟩⟩⟩
    walk_at "zz"
    exact q
  · refine ⟨.ref p, rfl, .inr ⟨p, _, rfl, hp, .inr ⟨_, _, true, true, rfl, wholeI a, wholeI b, ?_⟩⟩⟩
    walk_at "zz"
    refine z_gTup (SqT.of hp) rfl ?_
    walk_at "zz"
    unfold prB at q
    by_cases h0 : 0 < b
    · rw [decide_eq_true h0] at q ⊢
      walk_at "zz"
      refine ⟨a, b, rfl, ?_⟩
      walk_at "zz"
      refine bool_bl ?_ q
      rw [Bool.true_and]
      exact decide_eq_decide.mpr (by omega)
    · rw [decide_eq_false h0] at q ⊢
      walk_at "zz"
      exact q
  · refine ⟨.ref p, rfl, .inr ⟨p, _, rfl, hp, .inr ⟨v1, v2, k1, k2, rfl, t1, t2, ?_⟩⟩⟩
    walk_at "zz"
    rw [hk]
    walk_at "zz"
    exact q
def spPart : Sp := fun vs H Q _ => ∃ (n : Int) (e : Nat), vs = [.int n, .int (e : Int)] ∧ ∀ r H', H r = none → Same H H' → H' r = some (.tup [.int (partF e n).1, .int ((partF e n).2 : Int)]) → Q (.ref r) H'
theorem ok_part {f : Addr} {fd : FuncData} (F : FnP K "part" s_part f fd) (m_min : mg "min" = none) : FnOk P w K mg base CX0 1 f fd ["num", "e"] spPart := by
  refine F.ok sc_part (fun vs H Q E h => ?_) (fun cdv A outer s H vs Q E hr h => ?_)
  · obtain ⟨n, e, rfl, _⟩ := h; rfl
  obtain ⟨n, e, rfl, k⟩ := h
  refine ⟨_, PSs.nox (pss_cons (ps_if (pt_cmpR op_eq (pv 0) pe_int (nomark _))
    (pss_one (ps_ret (pe_tup (pa_cons pe_int (pa_cons pe_int pa_nil)))))
    pss_nil)
  (pss_cons (ps_set (i := 2) sc_part.nd rfl (.inl rfl) (pe_op op_sub (pe_bits (pe_op op_and (pv 0) (pe_un un_neg (pv 0)))) pe_int))
  (pss_cons (ps_set (i := 3) sc_part.nd rfl (.inl rfl) (pe_callB (call_min2E rfl) (by rfl) m_min (by decide +kernel) (pa_cons (pv 2) (pa_cons (pv 1) pa_nil))))
  (pss_one (ps_ret (pe_tup (pa_cons (pe_op op_shrA (pv 0) (pv 3)) (pa_cons (pe_op op_sub (pv 1) (pv 3)) pa_nil)))))))), ?_⟩
  walk_at "zz"
  refine z_ite (fun h => ?_) (fun h => ?_)
  · walk_at "zz"
    rw [h, partF_zero] at k
    exact z_new (by simp) k
  · walk_at "zz"
    obtain ⟨v, m, e1, e2, e3⟩ := bits_low h
    rw [e3, show (((v + 1 : Nat) : Int) - 1) = (v : Int) by omega]
    refine z_min2 ?_
    walk_at "zz"
    refine z_shrA (by omega) ?_
    walk_at "zz"
    have ep := partF_val e v m e2
    rw [← e1] at ep
    rw [ep] at k
    rw [Int.toNat_natCast, show (e : Int) - ((min v e : Nat) : Int) = ((e - min v e : Nat) : Int) by omega]
    exact z_new (by simp) k
def ptB (x y : Int) : Bool := decide (y = 0) || (decide (0 < y) && decide (x % 2 = 1))
/-- what is_part is asked of -/
def PartQ (K : PySem.W.Frag) (H : Hp) (x : V) (k : Bool) : Prop := (k = false ∧ ∃ n, TyX K H x (.type n) ∧ kitB n "tuple" = some false) ∨ ∃ p xs, x = .ref p ∧ H p = some (.tup xs) ∧ ((k = false ∧ xs.length ≠ 2) ∨ (∃ a b, xs = [.int a, .int b] ∧ k = ptB a b) ∨ (k = false ∧ ∃ v1 v2 k1 k2, xs = [v1, v2] ∧ WholeV K H v1 k1 ∧ WholeV K H v2 k2 ∧ (k1 && k2) = false))
def spIsPart (K : PySem.W.Frag) : Sp := fun vs H Q _ => ∃ x k, vs = [x] ∧ PartQ K H x k ∧ Q (.bl k) H
theorem ok_is_part {f : Addr} {fd : FuncData} (F : FnP K "is_part" s_is_part f fd) (h_is_two_whole_numbers : Has P w K mg base 2 "is_two_whole_numbers" ["thing"] (spTwo K)) : FnOk P w K mg base CX0 3 f fd ["thing"] (spIsPart K) := by
  refine F.ok sc_is_part (fun vs H Q E h => ?_) (fun cdv A outer s H vs Q E hr h => ?_)
  · obtain ⟨x, k, rfl, _⟩ := h; rfl
  obtain ⟨x, k, rfl, h, q⟩ := h
  refine ⟨_, PSs.nox (pss_cons (ps_if (pt_not (pt_val (pe_callH h_is_two_whole_numbers (hr.mono (by decide)) (by rfl) (pa_cons (pv 0) pa_nil))))
    (pss_one (ps_ret pe_bl))
    pss_nil)
  (pss_cons (ps_asg (pv 0) (pg_tup rfl (pgs_cons (pg_name (i := 1) sc_is_part.nd rfl (.inl rfl)) (pgs_cons (pg_name (i := 2) sc_is_part.nd rfl (.inl rfl)) pgs_nil))))
  (pss_one (ps_ret (pe_or (pe_cmpR op_eq (pv 2) pe_int (nomark _)) (pe_one (pe_and (pe_cmpR op_gt (pv 2) pe_int (nomark _)) (pe_one (pe_cmpR op_eq (pe_op op_and (pv 1) pe_int) pe_int (nomark _)))))))))), ?_⟩
  walk_at "zz"
  rcases h with ⟨rfl, n, ty, hk⟩ | ⟨p, xs, rfl, hp, ⟨rfl, hl⟩ | ⟨a, b, rfl, rfl⟩ | ⟨rfl, v1, v2, k1, k2, rfl, t1, t2, hk⟩⟩
  · refine ⟨x, rfl, .inl ⟨n, ty, hk, ?_⟩⟩
    walk_at "zz"
    exact q
  · refine ⟨.ref p, rfl, .inr ⟨p, xs, rfl, hp, .inl ⟨hl, ?_⟩⟩⟩
    walk_at "zz"
    exact q
  · refine ⟨.ref p, rfl, .inr ⟨p, _, rfl, hp, .inr ⟨_, _, true, true, rfl, wholeI a, wholeI b, ?_⟩⟩⟩
    walk_at "zz"
    refine z_gTup (SqT.of hp) rfl ?_
    walk_at "zz"
    unfold ptB at q
    by_cases h0 : b = 0
    · rw [decide_eq_true h0] at q ⊢
      walk_at "zz"
      exact q
    · rw [decide_eq_false h0] at q ⊢
      walk_at "zz"
      by_cases h1 : 0 < b
      · rw [decide_eq_true h1] at q ⊢
        walk_at "zz"
        rw [bitAnd_m1]
        exact q
      · rw [decide_eq_false h1] at q ⊢
        walk_at "zz"
        exact q
  · refine ⟨.ref p, rfl, .inr ⟨p, _, rfl, hp, .inr ⟨v1, v2, k1, k2, rfl, t1, t2, ?_⟩⟩⟩
    walk_at "zz"
    rw [hk]
    walk_at "zz"
    exact q
/-- a part at an address -/
structure PtA (H : Hp) (p : Addr) (x : Int) (e : Nat) (m : Nat) : Prop where
  h : H p = some (.tup [.int x, .int (e : Int)])
  is : e = 0 ∨ x % 2 = 1
  bx : x.natAbs < 2 ^ m
  be : e ≤ m
theorem PtA.same {H H' : Hp} {p : Addr} {x : Int} {e m : Nat} (a : PtA H p x e m) (s : Same H H') : PtA H' p x e m := ⟨s _ _ a.h, a.is, a.bx, a.be⟩
theorem PtA.dr {s : Addr} {H H' : Hp} {p : Addr} {x : Int} {e m : Nat} (a : PtA H p x e m) (d : Dr s H H') : PtA H' p x e m := ⟨d.tup a.h, a.is, a.bx, a.be⟩
theorem sh_nat {a b : Nat} (h : b ≤ a) : ((a : Nat) : Int) - ((b : Nat) : Int) = ((a - b : Nat) : Int) := by omega
theorem shl_b {x : Int} {m k : Nat} (h : x.natAbs < 2 ^ m) : (x * 2 ^ k).natAbs < 2 ^ (m + k) := by
  rw [Int.natAbs_mul, Int.natAbs_pow, Nat.pow_add]
  exact Nat.mul_lt_mul_of_pos_right h (Nat.pow_pos (by decide))
def spPPlus : Sp := fun vs H Q _ => ∃ (p q : Addr) (a b : Int) (d e m : Nat), vs = [.ref p, .ref q] ∧ m ≤ 10000 ∧ H p = some (.tup [.int a, .int (d : Int)]) ∧ H q = some (.tup [.int b, .int (e : Int)]) ∧ a.natAbs < 2 ^ m ∧ b.natAbs < 2 ^ m ∧ d ≤ m ∧ e ≤ m ∧
  ∀ r H', H r = none → Same H H' → H' r = some (.tup [.int (partF (d + e) (a * 2 ^ e + b * 2 ^ d)).1, .int ((partF (d + e) (a * 2 ^ e + b * 2 ^ d)).2 : Int)]) → Q (.ref r) H'
theorem ok_part_plus {f : Addr} {fd : FuncData} (F : FnP K "part_plus" s_part_plus f fd) (m_max : mg "max" = none) (h_part : Has P w K mg base 1 "part" ["num", "e"] spPart) : FnOk P w K mg base CX0 2 f fd ["one", "other"] spPPlus := by
  refine F.ok sc_part_plus (fun vs H Q E h => ?_) (fun cdv A outer s H vs Q E hr h => ?_)
  · obtain ⟨p, q, a, b, d, e, m, rfl, _⟩ := h; rfl
  obtain ⟨p, q, a, b, d, e, m, rfl, hm, hp, hq, ba, bb, bd, be, k⟩ := h
  refine ⟨_, PSs.nox (pss_cons (ps_set (i := 2) sc_part_plus.nd rfl (.inl rfl) (pe_callB (call_max2E rfl) (by rfl) m_max (by decide +kernel) (pa_cons (pe_ix (ix_tupE K) (pv 0) pe_int (fun _ _ => rfl)) (pa_cons (pe_ix (ix_tupE K) (pv 1) pe_int (fun _ _ => rfl)) pa_nil))))
  (pss_one (ps_ret (pe_callH h_part (hr.mono (by decide)) (by rfl) (pa_cons (pe_op op_add (pe_op op_shlA (pe_ix (ix_tupE K) (pv 0) pe_int (fun _ _ => rfl)) (pe_op op_sub (pv 2) (pe_ix (ix_tupE K) (pv 0) pe_int (fun _ _ => rfl)))) (pe_op op_shlA (pe_ix (ix_tupE K) (pv 1) pe_int (fun _ _ => rfl)) (pe_op op_sub (pv 2) (pe_ix (ix_tupE K) (pv 1) pe_int (fun _ _ => rfl))))) (pa_cons (pv 2) pa_nil)))))), ?_⟩
  walk_at "zz"
  refine z_ixT (SqT.of hp) (v := .int (d : Int)) rfl ?_
  walk_at "zz"
  refine z_ixT (SqT.of hq) (v := .int (e : Int)) rfl ?_
  walk_at "zz"
  refine z_max2 ?_
  walk_at "zz"
  refine z_ixT (SqT.of hp) (v := .int a) rfl ?_
  walk_at "zz"
  refine z_ixT (SqT.of hp) (v := .int (d : Int)) rfl ?_
  walk_at "zz"
  rw [sh_nat (show d ≤ max d e by omega)]
  refine z_shlA (shl_ok ba (by omega)) ?_
  walk_at "zz"
  refine z_ixT (SqT.of hq) (v := .int b) rfl ?_
  walk_at "zz"
  refine z_ixT (SqT.of hq) (v := .int (e : Int)) rfl ?_
  walk_at "zz"
  rw [sh_nat (show e ≤ max d e by omega)]
  refine z_shlA (shl_ok bb (by omega)) ?_
  walk_at "zz"
  rw [Int.toNat_natCast, Int.toNat_natCast]
  refine ⟨_, max d e, rfl, ?_⟩
  rw [sum_shift]
  exact k
def spPLess : Sp := fun vs H Q _ => ∃ (p q : Addr) (a b : Int) (d e m : Nat), vs = [.ref p, .ref q] ∧ m ≤ 10000 ∧ H p = some (.tup [.int a, .int (d : Int)]) ∧ H q = some (.tup [.int b, .int (e : Int)]) ∧ a.natAbs < 2 ^ m ∧ b.natAbs < 2 ^ m ∧ d ≤ m ∧ e ≤ m ∧
  ∀ r H', H r = none → Same H H' → H' r = some (.tup [.int (partF (d + e) (a * 2 ^ e - b * 2 ^ d)).1, .int ((partF (d + e) (a * 2 ^ e - b * 2 ^ d)).2 : Int)]) → Q (.ref r) H'
theorem ok_part_less {f : Addr} {fd : FuncData} (F : FnP K "part_less" s_part_less f fd) (h_part_plus : Has P w K mg base 2 "part_plus" ["one", "other"] spPPlus) : FnOk P w K mg base CX0 3 f fd ["one", "other"] spPLess := by
  refine F.ok sc_part_less (fun vs H Q E h => ?_) (fun cdv A outer s H vs Q E hr h => ?_)
  · obtain ⟨p, q, a, b, d, e, m, rfl, _⟩ := h; rfl
  obtain ⟨p, q, a, b, d, e, m, rfl, hm, hp, hq, ba, bb, bd, be, k⟩ := h
  refine ⟨_, PSs.nox (pss_one (ps_ret (pe_callH h_part_plus (hr.mono (by decide)) (by rfl) (pa_cons (pv 0) (pa_cons (pe_tup (pa_cons (pe_un un_neg (pe_ix (ix_tupE K) (pv 1) pe_int (fun _ _ => rfl))) (pa_cons (pe_ix (ix_tupE K) (pv 1) pe_int (fun _ _ => rfl)) pa_nil))) pa_nil))))), ?_⟩
  walk_at "zz"
  refine z_ixT (SqT.of hq) (v := .int b) rfl ?_
  walk_at "zz"
  refine z_ixT (SqT.of hq) (v := .int (e : Int)) rfl ?_
  walk_at "zz"
  refine z_new (by simp) (fun t H1 nt s1 ht => ?_)
  walk_at "zz"
  refine ⟨p, t, a, -b, d, e, m, rfl, hm, s1 _ _ hp, ht, ba, by omega, bd, be, fun r H2 nr s2 hr => ?_⟩
  rw [Int.neg_mul, ← Int.sub_eq_add_neg] at hr
  exact k r H2 (s1.free nr) (s1.trans s2) hr
def spPOver : Sp := fun vs H Q _ => ∃ (p q : Addr) (a b : Int) (d e m : Nat), vs = [.ref p, .ref q] ∧ m ≤ 3000 ∧ b ≠ 0 ∧ H p = some (.tup [.int a, .int (d : Int)]) ∧ H q = some (.tup [.int b, .int (e : Int)]) ∧ a.natAbs < 2 ^ m ∧ b.natAbs < 2 ^ m ∧ d ≤ m ∧ e ≤ m ∧
  ∀ r H', H r = none → Same H H' → H' r = some (.tup [.int (pn (a * 2 ^ (e - min d e)) (b * 2 ^ (d - min d e))), .int (pd (a * 2 ^ (e - min d e)) (b * 2 ^ (d - min d e)))]) → Q (.ref r) H'
theorem ok_part_over {f : Addr} {fd : FuncData} (F : FnP K "part_over" s_part_over f fd) (m_min : mg "min" = none) (h_pair : Has P w K mg base 2 "pair" ["num", "den"] (spPair K)) : FnOk P w K mg base CX0 3 f fd ["one", "other"] spPOver := by
  refine F.ok sc_part_over (fun vs H Q E h => ?_) (fun cdv A outer s H vs Q E hr h => ?_)
  · obtain ⟨p, q, a, b, d, e, m, rfl, _⟩ := h; rfl
  obtain ⟨p, q, a, b, d, e, m, rfl, hm, hb0, hp, hq, ba, bb, bd, be, k⟩ := h
  refine ⟨_, PSs.nox (pss_cons (ps_set (i := 2) sc_part_over.nd rfl (.inl rfl) (pe_callB (call_min2E rfl) (by rfl) m_min (by decide +kernel) (pa_cons (pe_ix (ix_tupE K) (pv 0) pe_int (fun _ _ => rfl)) (pa_cons (pe_ix (ix_tupE K) (pv 1) pe_int (fun _ _ => rfl)) pa_nil))))
  (pss_one (ps_ret (pe_callH h_pair (hr.mono (by decide)) (by rfl) (pa_cons (pe_op op_shlA (pe_ix (ix_tupE K) (pv 0) pe_int (fun _ _ => rfl)) (pe_op op_sub (pe_ix (ix_tupE K) (pv 1) pe_int (fun _ _ => rfl)) (pv 2))) (pa_cons (pe_op op_shlA (pe_ix (ix_tupE K) (pv 1) pe_int (fun _ _ => rfl)) (pe_op op_sub (pe_ix (ix_tupE K) (pv 0) pe_int (fun _ _ => rfl)) (pv 2))) pa_nil)))))), ?_⟩
  walk_at "zz"
  refine z_ixT (SqT.of hp) (v := .int (d : Int)) rfl ?_
  walk_at "zz"
  refine z_ixT (SqT.of hq) (v := .int (e : Int)) rfl ?_
  walk_at "zz"
  refine z_min2 ?_
  walk_at "zz"
  refine z_ixT (SqT.of hp) (v := .int a) rfl ?_
  walk_at "zz"
  refine z_ixT (SqT.of hq) (v := .int (e : Int)) rfl ?_
  walk_at "zz"
  rw [sh_nat (show min d e ≤ e by omega)]
  refine z_shlA (shl_ok ba (by omega)) ?_
  walk_at "zz"
  refine z_ixT (SqT.of hq) (v := .int b) rfl ?_
  walk_at "zz"
  refine z_ixT (SqT.of hp) (v := .int (d : Int)) rfl ?_
  walk_at "zz"
  rw [sh_nat (show min d e ≤ d by omega)]
  refine z_shlA (shl_ok bb (by omega)) ?_
  walk_at "zz"
  rw [Int.toNat_natCast, Int.toNat_natCast]
  refine ⟨_, _, rfl, ?_, pw_mono (shl_b bb) (by omega), k⟩
  intro z
  rcases Int.mul_eq_zero.mp z with z | z
  · exact hb0 z
  · exact absurd z (Int.ne_of_gt (Int.pow_pos (by decide)))
def spHalv : Sp := fun vs H Q _ => ∃ n : Nat, vs = [.int (n : Int)] ∧ Q (.int (Builtin.Int.intBits (n : Int) : Nat)) H
theorem ok_halvings {f : Addr} {fd : FuncData} (F : FnP K "halvings" s_halvings f fd) : FnOk P w K mg base CX0 1 f fd ["many"] spHalv := by
  refine F.ok sc_halvings (fun vs H Q E h => ?_) (fun cdv A outer s H vs Q E hr h => ?_)
  · obtain ⟨n, rfl, _⟩ := h; rfl
  obtain ⟨n, rfl, k⟩ := h
  refine ⟨_, PSs.nox (pss_one (ps_ret (pe_bits (pv 0)))), ?_⟩
  walk_at "zz"
  exact k
def spCell (K : PySem.W.Frag) : Sp := fun vs H Q _ => ∃ (a : Addr) (ns : List Int) (k : Nat), vs = [.ref a, .int (k : Int)] ∧ SqL K H a (ns.map V.int) ∧ ns.length ≤ 63 ∧ ∀ c : Int, Q (.int c) H
theorem ok__law_cell_at {f : Addr} {fd : FuncData} (F : FnP K "_law_cell_at" s__law_cell_at f fd) (m_len : mg "len" = none) : FnOk P w K mg base CX0 1 f fd ["_law_script", "_law_k"] (spCell K) := by
  refine F.ok sc__law_cell_at (fun vs H Q E h => ?_) (fun cdv A outer s H vs Q E hr h => ?_)
  · obtain ⟨a, ns, k, rfl, _⟩ := h; rfl
  obtain ⟨a, ns, k, rfl, hS, hl, q⟩ := h
  refine ⟨_, PSs.nox (pss_cons (ps_if (pt_cmpR op_lt (pv 1) (pe_callB (call_lenE K) (by rfl) m_len (by decide +kernel) (pa_cons (pv 0) pa_nil)) (nomark _))
    (pss_one (ps_ret (pe_ix (ix_listE K) (pv 0) (pv 1) (fun _ _ => rfl))))
    pss_nil)
  (pss_one (ps_ret pe_int))), ?_⟩
  walk_at "zz"
  refine z_lenL hS ?_
  rw [List.length_map]
  walk_at "zz"
  refine z_ite (fun h => ?_) (fun h => ?_)
  · walk_at "zz"
    have h1 : k < ns.length := by omega
    refine z_ixL hS (v := .int ns[k]) (atI_nat ?_) ?_
    · rw [List.getElem?_map, List.getElem?_eq_getElem h1]
      rfl
    · exact q _
  · walk_at "zz"
    exact q _
def spBegin (K : PySem.W.Frag) : Sp := fun vs H Q _ => ∃ c : Int, vs = [.int c] ∧ ∀ p H', H p = none → Same H H' → Src H' p → Q (.ref p) H'
theorem ok__law_begin {f : Addr} {fd : FuncData} (F : FnP K "_law_begin" s__law_begin f fd) (m_int : mg "int" = none) : FnOk P w K mg base CX0 1 f fd ["_law_cell"] (spBegin K) := by
  refine F.ok sc__law_begin (fun vs H Q E h => ?_) (fun cdv A outer s H vs Q E hr h => ?_)
  · obtain ⟨c, rfl, _⟩ := h; rfl
  obtain ⟨c, rfl, q⟩ := h
  refine ⟨_, PSs.nox (pss_one (ps_ret (pe_lst (pa_cons (pe_ix (ix_listE K) (pe_lst (pa_cons pe_int (pa_cons (pv 0) pa_nil))) (pe_callTy call_intE (by rfl) m_int (by decide +kernel) (pa_cons (pe_cmpR op_ge (pv 0) (pe_op op_pow pe_int pe_int) (nomark _)) pa_nil)) (fun _ _ => rfl)) (pa_cons (pe_op op_modN (pv 0) pe_int) (pa_cons pe_int pa_nil)))))), ?_⟩
  walk_at "zz"
  refine z_new (by simp) (fun p1 H1 n1 s1 h1 => ?_)
  walk_at "zz"
  obtain ⟨x, hx⟩ : ∃ x : Int, atI [V.int 0, V.int c] (if decide (((10 : Int) ^ Int.toNat 18) ≤ c) = true then 1 else 0) = some (.int x) := by
    by_cases h : ((10 : Int) ^ Int.toNat 18) ≤ c
    · exact ⟨c, by rw [decide_eq_true h]; rfl⟩
    · exact ⟨0, by rw [decide_eq_false h]; rfl⟩
  refine z_ixL (SqL.of h1) hx ?_
  walk_at "zz"
  refine z_new (by simp) (fun p2 H2 n2 s2 h2 => ?_)
  exact q p2 H2 (s1.free n2) (s1.trans s2) ⟨_, _, _, h2⟩
def spDraw : Sp := fun vs H Q _ => ∃ (s : Addr) (m : Int), vs = [.ref s, .int m] ∧ 0 < m ∧ m.natAbs < 2 ^ 8000 ∧ Src H s ∧ ∀ (r : Int) H', 0 ≤ r → r < m → Dr s H H' → Q (.int r) H'
theorem ok__law_draw {f : Addr} {fd : FuncData} (F : FnP K "_law_draw" s__law_draw f fd) : FnOk P w K mg base CX0 1 f fd ["_law_source", "_law_most"] spDraw := by
  refine F.ok sc__law_draw (fun vs H Q E h => ?_) (fun cdv A outer s H vs Q E hr h => ?_)
  · obtain ⟨s, m, rfl, _⟩ := h; rfl
  obtain ⟨s, m, rfl, h0, hm, ⟨a, b, c, hs⟩, q⟩ := h
  refine ⟨_, PSs.nox (pss_cons (ps_if (pt_cmpR op_gt (pe_ix (ix_listE K) (pv 0) pe_int (fun _ _ => rfl)) pe_int (nomark _))
    (pss_cons (ps_set (i := 2) sc__law_draw.nd rfl (.inl rfl) (pe_op op_modN (pe_ix (ix_listE K) (pv 0) pe_int (fun _ _ => rfl)) (pv 1)))
  (pss_cons (ps_asg (pe_op op_fdivA (pe_ix (ix_listE K) (pv 0) pe_int (fun _ _ => rfl)) (pv 1)) (pg_sub (pv 0) pe_int set_list))
  (pss_one (ps_ret (pv 2)))))
    pss_nil)
  (pss_cons (ps_asg (pe_op op_add (pe_ix (ix_listE K) (pv 0) pe_int (fun _ _ => rfl)) pe_int) (pg_sub (pv 0) pe_int set_list))
  (pss_cons (ps_set (i := 3) sc__law_draw.nd rfl (.inl rfl) (pe_op op_modN (pe_op op_mulA (pe_op op_add (pe_op op_add (pe_ix (ix_listE K) (pv 0) pe_int (fun _ _ => rfl)) (pe_op op_mulA pe_int (pe_ix (ix_listE K) (pv 0) pe_int (fun _ _ => rfl)))) pe_int) pe_int) pe_int))
  (pss_cons (ps_set (i := 3) sc__law_draw.nd rfl (.inl rfl) (pe_op op_modN (pe_op op_mulA (pv 3) (pe_op op_add (pe_op op_fdivA (pv 3) pe_int) pe_int)) pe_int))
  (pss_one (ps_ret (pe_op op_modN (pe_op op_modN (pe_op op_mulA (pv 3) (pe_op op_add (pe_op op_fdivA (pv 3) pe_int) pe_int)) pe_int) (pv 1)))))))), ?_⟩
  have md : ∀ x : Int, CDivA x m := fun x => divA (n := 8000) (by omega) hm (by decide) (by decide)
  have dr : ∀ {H' : Hp} {x y z : Int}, H' = upd H s (.lst [.int x, .int y, .int z]) → Dr s H H' := fun {H' x y z} e => by
    rw [e]
    exact ⟨fun u o n h => by rw [upd_ne n]; exact h, ⟨_, _, _, upd_same⟩, ⟨_, _, _, hs⟩⟩
  walk_at "zz"
  refine z_ixL (SqL.of hs) (v := .int a) rfl ?_
  walk_at "zz"
  refine z_ite (fun h => ?_) (fun h => ?_)
  · walk_at "zz"
    refine z_ixL (SqL.of hs) (v := .int a) rfl ?_
    walk_at "zz"
    refine z_ixL (SqL.of hs) (v := .int a) rfl ?_
    walk_at "zz"
    refine z_fdivA (md _) ?_
    walk_at "zz"
    refine z_setL hs (j := 0) rfl ?_
    walk_at "zz"
    exact q _ _ (Int.fmod_nonneg_of_pos _ h0) (Int.fmod_lt_of_pos _ h0) (dr rfl)
  · walk_at "zz"
    refine z_ixL (SqL.of hs) (v := .int c) rfl ?_
    walk_at "zz"
    refine z_setL hs (j := 2) rfl ?_
    have hs2 : (upd H s (.lst ([V.int a, V.int b, V.int c].set 2 (.int (c + 1))))) s = some (.lst [.int a, .int b, .int (c + 1)]) := upd_same
    walk_at "zz"
    refine z_ixL (SqL.of hs2) (v := .int b) rfl ?_
    walk_at "zz"
    refine z_ixL (SqL.of hs2) (v := .int (c + 1)) rfl ?_
    refine z_mulA (mulL (by decide)) ?_
    walk_at "zz"
    refine z_mulA (mulR (by decide)) ?_
    walk_at "zz"
    generalize hn : ((b + 7919 * (c + 1) + 1) * 48271).fmod 2147483647 = n
    have n0 : 0 ≤ n := by rw [← hn]; exact Int.fmod_nonneg_of_pos _ (by decide)
    have n1 : n < 2147483647 := by rw [← hn]; exact Int.fmod_lt_of_pos _ (by decide)
    refine z_fdivA ⟨by decide, by decide +kernel⟩ ?_
    walk_at "zz"
    refine z_mulA (mulL ⟨by omega, by omega⟩) ?_
    walk_at "zz"
    generalize hk : (n * (n.fdiv 1009 + 69621)).fmod 2147483647 = k
    have k0 : 0 ≤ k := by rw [← hk]; exact Int.fmod_nonneg_of_pos _ (by decide)
    have k1 : k < 2147483647 := by rw [← hk]; exact Int.fmod_lt_of_pos _ (by decide)
    refine z_fdivA ⟨by decide, by decide +kernel⟩ ?_
    walk_at "zz"
    refine z_mulA (mulL ⟨by omega, by omega⟩) ?_
    walk_at "zz"
    exact q _ _ (Int.fmod_nonneg_of_pos _ h0) (Int.fmod_lt_of_pos _ h0) (dr rfl)
def spFar : Sp := fun vs H Q _ => ∃ s : Addr, vs = [.ref s] ∧ Src H s ∧ ∀ (n : Int) H', n.natAbs < 2 ^ 200 → Dr s H H' → Q (.int n) H'
theorem ok__law_far {f : Addr} {fd : FuncData} (F : FnP K "_law_far" s__law_far f fd) (m_range : mg "range" = none) (h__law_draw : Has P w K mg base 1 "_law_draw" ["_law_source", "_law_most"] spDraw) : FnOk P w K mg base CX0 2 f fd ["_law_source"] spFar := by
  refine F.ok sc__law_far (fun vs H Q E h => ?_) (fun cdv A outer s H vs Q E hr h => ?_)
  · obtain ⟨s, rfl, _⟩ := h; rfl
  obtain ⟨s, rfl, hs, q⟩ := h
  refine ⟨_, PSs.nox (pss_cons (ps_set (i := 1) sc__law_far.nd rfl (.inl rfl) (pe_callH h__law_draw (hr.mono (by decide)) (by rfl) (pa_cons (pv 0) (pa_cons pe_int pa_nil))))
  (pss_cons (ps_set (i := 2) sc__law_far.nd rfl (.inl rfl) (pe_op op_sub (pe_callH h__law_draw (hr.mono (by decide)) (by rfl) (pa_cons (pv 0) (pa_cons pe_int pa_nil))) pe_int))
  (pss_cons (ps_set (i := 3) sc__law_far.nd rfl (.inl rfl) pe_int)
  (pss_cons (ps_for PassesOwn.never rfl (pi_range1 (by rfl) m_range (pa_cons (pe_op op_add pe_int (pe_callH h__law_draw (hr.mono (by decide)) (by rfl) (pa_cons (pv 0) (pa_cons pe_int pa_nil)))) pa_nil)) (pg_name (i := 4) sc__law_far.nd rfl (.inl rfl))
    (pss_one (ps_set (i := 3) sc__law_far.nd rfl (.inl rfl) (pe_op op_add (pe_op op_mulA (pv 3) (pe_op op_pow pe_int pe_int)) (pe_callH h__law_draw (hr.mono (by decide)) (by rfl) (pa_cons (pv 0) (pa_cons (pe_op op_pow pe_int pe_int) pa_nil)))))))
  (pss_cons (ps_set (i := 5) sc__law_far.nd rfl (.inl rfl) (pe_op op_sub (pe_op op_add (pe_op op_shlA pe_int (pe_callH h__law_draw (hr.mono (by decide)) (by rfl) (pa_cons (pv 0) (pa_cons pe_int pa_nil)))) (pe_callH h__law_draw (hr.mono (by decide)) (by rfl) (pa_cons (pv 0) (pa_cons pe_int pa_nil)))) pe_int))
  (pss_one (ps_ret (pe_ix (ix_listE K) (pe_lst (pa_cons (pv 2) (pa_cons (pv 2) (pa_cons (pv 3) (pa_cons (pe_op op_sub pe_int (pv 3)) (pa_cons (pv 5) (pa_cons (pe_op op_sub pe_int (pv 5)) pa_nil))))))) (pv 1) (fun _ _ => rfl))))))))), ?_⟩
  walk_at "zz"
  refine ⟨s, _, rfl, by decide, by decide +kernel, hs, fun way H1 w0 w1 d1 => ?_⟩
  walk_at "zz"
  refine ⟨s, _, rfl, by decide, by decide +kernel, d1.src, fun small H2 s0 s1 d2 => ?_⟩
  walk_at "zz"
  refine ⟨s, _, rfl, by decide, by decide +kernel, d2.src, fun many H3 m0 m1 d3 => ?_⟩
  walk_at "zz"
  refine ⟨_, rfl, by omega, by omega, for_range (lo := 0) (n := (1 + many).toNat) (fun i σ H' => ∃ (great : Int) (k : Option V), σ = [some (.ref s), some (.int way), some (.int (small - 6)), some (.int great), k, none] ∧ Dr s H H' ∧ 0 ≤ great ∧ great < 10000000000 ^ i) ⟨0, none, rfl, (d1.trans d2).trans d3, by decide, by decide⟩ ?_ ?_⟩
  · rintro i σ H4 hi ⟨great, k, rfl, d4, g0, g1⟩
    walk_at "zz"
    refine z_mulA (mulR (by decide)) ?_
    walk_at "zz"
    refine ⟨s, _, rfl, by decide, by decide +kernel, d4.src, fun x H5 x0 x1 d5 => ?_⟩
    walk_at "zz"
    have e : (10 : Int) ^ Int.toNat 10 = 10000000000 := by decide
    rw [e] at x1 ⊢
    refine ⟨great * 10000000000 + x, _, rfl, d4.trans d5, by omega, ?_⟩
    rw [Int.pow_succ]
    omega
  · rintro σ H4 ⟨great, k, rfl, d4, g0, g1⟩
    walk_at "zz"
    refine ⟨s, _, rfl, by decide, by decide +kernel, d4.src, fun x H5 x0 x1 d5 => ?_⟩
    obtain ⟨xn, rfl⟩ : ∃ xn : Nat, x = (xn : Int) := ⟨x.toNat, by omega⟩
    refine z_shlA (shl_ok (n := 1) (by decide) (by omega)) ?_
    walk_at "zz"
    refine ⟨s, _, rfl, by decide, by decide +kernel, d5.src, fun y H6 y0 y1 d6 => ?_⟩
    walk_at "zz"
    refine z_new (by simp) (fun p H7 np sm hp => ?_)
    walk_at "zz"
    have gb : great < 10000000000 ^ 6 := Int.lt_of_lt_of_le g1 (ipow_le (c := 10000000000) (by decide) (by omega))
    have e6 : (10000000000 : Int) ^ 6 = 10 ^ 60 := by decide
    have p1 : (2 : Int) ^ (Int.toNat (xn : Int)) ≤ 2 ^ 199 := by
      rw [Int.toNat_natCast]
      exact ipow_le (c := 2) (by decide) (by omega)
    have p0 : (0 : Int) < 2 ^ (Int.toNat (xn : Int)) := Int.pow_pos (by decide)
    have e199 : (2 : Int) ^ 199 * 2 = ((2 ^ 200 : Nat) : Int) := by decide
    have e60 : (10 : Int) ^ 60 < ((2 ^ 200 : Nat) : Int) := by decide
    have b : ∀ n : Int, -((2 ^ 200 : Nat) : Int) < n → n < ((2 ^ 200 : Nat) : Int) → n.natAbs < 2 ^ 200 := fun n h1 h2 => by omega
    have dd : Dr s H H7 := (d4.trans d5).trans (d6.trans (Dr.of_same d6.src sm))
    have e200 : (8 : Int) < 2 ^ 199 := by decide
    generalize hX : (2 : Int) ^ (Int.toNat (xn : Int)) = X at *
    generalize hZ : ((2 ^ 200 : Nat) : Int) = Z at *
    generalize hY : (2 : Int) ^ 199 = Y at *
    rcases (show way = 0 ∨ way = 1 ∨ way = 2 ∨ way = 3 ∨ way = 4 ∨ way = 5 by omega) with rfl | rfl | rfl | rfl | rfl | rfl
    · exact z_ixL (SqL.of hp) (v := .int (small - 6)) rfl (q _ _ (b _ (by omega) (by omega)) dd)
    · exact z_ixL (SqL.of hp) (v := .int (small - 6)) rfl (q _ _ (b _ (by omega) (by omega)) dd)
    · exact z_ixL (SqL.of hp) (v := .int great) rfl (q _ _ (b _ (by omega) (by omega)) dd)
    · exact z_ixL (SqL.of hp) (v := .int (0 - great)) rfl (q _ _ (b _ (by omega) (by omega)) dd)
    · exact z_ixL (SqL.of hp) (v := .int (1 * X + y - 1)) rfl (q _ _ (b _ (by omega) (by omega)) dd)
    · exact z_ixL (SqL.of hp) (v := .int (0 - (1 * X + y - 1))) rfl (q _ _ (b _ (by omega) (by omega)) dd)
def spLPart : Sp := fun vs H Q _ => ∃ (n : Int) (e : Nat), vs = [.int n, .int (e : Int)] ∧ ∀ r H', H r = none → Same H H' → H' r = some (.tup [.int (partF e n).1, .int ((partF e n).2 : Int)]) → Q (.ref r) H'
theorem ok__law_part {f : Addr} {fd : FuncData} (F : FnP K "_law_part" s__law_part f fd) : FnOk P w K mg base CX0 1 f fd ["_law_num", "_law_e"] spLPart := by
  refine F.ok sc__law_part (fun vs H Q E h => ?_) (fun cdv A outer s H vs Q E hr h => ?_)
  · obtain ⟨n, e, rfl, _⟩ := h; rfl
  obtain ⟨n, e, rfl, k⟩ := h
  refine ⟨_, PSs.nox (pss_cons (ps_while PassesOwn.never (PW.pt (pw_and (pt_cmpR op_gt (pv 1) pe_int (nomark _)) (pw_and1 (pt_cmpR op_eq (pe_op op_modN (pv 0) pe_int) pe_int (nomark _)))))
    (pss_cons (ps_set (i := 0) sc__law_part.nd rfl (.inl rfl) (pe_op op_fdivA (pv 0) pe_int))
  (pss_one (ps_set (i := 1) sc__law_part.nd rfl (.inl rfl) (pe_op op_sub (pv 1) pe_int)))))
  (pss_one (ps_ret (pe_tup (pa_cons (pv 0) (pa_cons (pv 1) pa_nil)))))), ?_⟩
  walk_at "zz"
  refine ⟨fun m σ H' => ∃ (x : Int) (d : Nat), σ = [some (.int x), some (.int (d : Int))] ∧ H = H' ∧ d = m ∧ partF d x = partF e n, ⟨e, n, e, rfl, rfl, rfl, rfl⟩, ?_⟩
  rintro m σ H' ⟨x, d, rfl, rfl, rfl, hd⟩
  have done : d = 0 ∨ x % 2 = 1 → NewO HO.tup [V.int x, V.int (d : Int)] H Q := by
    intro h
    rw [partF_id h] at hd
    rw [← hd] at k
    exact z_new (by simp) k
  walk_at "zz"
  refine z_ite (fun h => ?_) (fun h => ?_)
  case refine_2 =>
    walk_at "zz"
    exact done (.inl (by omega))
  walk_at "zz"
  rw [Int.fmod_eq_emod_of_nonneg _ (by decide)]
  refine z_ite (fun h' => ?_) (fun h' => ?_)
  case refine_2 =>
    walk_at "zz"
    exact done (.inr (by omega))
  walk_at "zz"
  refine ⟨_, fun _ _ h => h, ?_⟩
  walk_at "zz"
  refine z_fdivA ⟨by decide, by decide +kernel⟩ ?_
  walk_at "zz"
  rw [Int.fdiv_eq_ediv_of_nonneg _ (by decide)]
  obtain ⟨c, rfl⟩ : ∃ c, d = c + 1 := ⟨d - 1, by omega⟩
  refine ⟨c, by omega, x / 2, c, ?_, rfl, rfl, ?_⟩
  · rw [show (((c + 1 : Nat) : Int) - 1) = (c : Int) by omega]
    rfl
  · rw [← hd]
    show _ = (if x % 2 = 0 then partF c (x / 2) else (x, c + 1))
    rw [if_pos h']
def spLWhole : Sp := fun vs H Q _ => ∃ (p : Addr) (x y : Int), vs = [.ref p] ∧ H p = some (.tup [.int x, .int y]) ∧ ∀ H', Same H H' → Q (.bl true) H'
theorem ok__law_whole {f : Addr} {fd : FuncData} (F : FnP K "_law_whole" s__law_whole f fd) (m_isinstance : mg "isinstance" = none) (m_tuple : mg "tuple" = none) (m_bool : mg "bool" = none) : FnOk P w K mg base CX0 1 f fd ["_law_found"] spLWhole := by
  refine F.ok sc__law_whole (fun vs H Q E h => ?_) (fun cdv A outer s H vs Q E hr h => ?_)
  · obtain ⟨p, x, y, rfl, _⟩ := h; rfl
  obtain ⟨p, x, y, rfl, hp, k⟩ := h
  refine ⟨_, PSs.nox (pss_one (ps_ret (pe_and (pe_callB (call_isiE K) (by rfl) m_isinstance (by decide +kernel) (pa_cons (pv 0) (pa_cons (pe_bltn (v := .ty "tuple") (by rfl) m_tuple (by decide +kernel) rfl) pa_nil))) (pe_one (pe_cmpR (op_eqDE K hr.units) (pe_lc (own := [("_law_one", 1)]) (g := (gName 1)) (by rfl) sc__law_whole.nd (pi_tupE K (pv 0)) (blkOk_by (own := [("_law_one", 1)]) (N := ["_law_found", "_law_one"]) (sc := defScope s__law_whole) (by decide +kernel)) (fun _ _ _ _ _ => (pg_name (i := 1) sc__law_whole.nd rfl (.inl rfl))) (fun _ _ _ _ _ => (pts_one (pt_val (pe_callB (call_isiE K) (by rfl) m_isinstance (by decide +kernel) (pa_cons (pv 1) (pa_cons (pe_bltn (v := .ty "bool") (by rfl) m_bool (by decide +kernel) rfl) pa_nil)))))) (fun _ _ _ _ _ => (pv 1))) (pe_lst pa_nil) (nomark _)))))), ?_⟩
  walk_at "zz"
  refine z_isi (n := "tuple") (k := true) (.base (.tup hp)) (by decide +kernel) ?_
  walk_at "zz"
  refine ⟨_, rfl, p, rfl, ⟨_, SqT.of hp⟩, fun Dl nD => lc_tup (xs := [.int x, .int y]) (fun i H' => Same H H' ∧ H' Dl = some (.lst [])) ?_ ?_ ?_ ?_⟩
  · exact ⟨fun b u e => by rw [upd_ne (ne_of_none e nD)]; exact e, upd_same⟩
  · intro i H' hi h
    exact SqT.of (h.1 _ _ hp)
  · intro i v H' hi h
    obtain ⟨z, rfl⟩ : ∃ z : Int, v = .int z := by
      rcases i with _ | _ | i
      · exact ⟨x, (Option.some.inj hi).symm⟩
      · exact ⟨y, (Option.some.inj hi).symm⟩
      · cases hi
    refine ⟨rfl, ?_⟩
    walk_at "zz"
    refine z_isi (n := "int") (k := false) (.base (.int z)) (by decide +kernel) ?_
    walk_at "zz"
    exact h
  · rintro H3 ⟨s3, hD⟩
    walk_at "zz"
    refine z_new (by simp) (fun p4 H4 np4 s4 hp4 => ?_)
    exact z_eqD (.lst (SqL.of (s4 _ _ hD)) .nil) (.lst (SqL.of hp4) .nil) (k := true) rfl rfl rfl (k _ (s3.trans s4))
theorem dpTwo {K : PySem.W.Frag} {H : Hp} {l p q : Addr} {x y x' y' : Int} (hl : H l = some (.lst [.ref p, .ref q])) (h : H p = some (.tup [.int x, .int y])) (h' : H q = some (.tup [.int x', .int y'])) : Dp K H (.ref l) (.list [.tuple [.int x, .int y], .tuple [.int x', .int y']]) := .lst (SqL.of hl) (.cons (dpPair h) (.cons (dpPair h') .nil))
theorem eqvTwo (x y x' y' : Int) : PyData.eqv (.list [.tuple [.int x, .int y], .tuple [.int x', .int y']]) (.list [.tuple [.int x, .int y], .tuple [.int x', .int y']]) = true := by
  simp [PyData.eqv, PyData.eqvAll]
theorem ptB_is (e : Nat) (n : Int) : ptB (partF e n).1 ((partF e n).2 : Int) = true := by
  unfold ptB
  rcases partF_is e n with h | h
  · rw [h]
    rfl
  · by_cases h0 : (partF e n).2 = 0
    · rw [h0]
      rfl
    · rw [decide_eq_true h, decide_eq_true (show (0 : Int) < ((partF e n).2 : Int) by omega)]
      simp
def spRight : Sp := fun vs H Q _ => ∃ (p q : Addr) (a b : Int) (d e : Nat), vs = [.ref p, .ref q] ∧ PtA H p a d 310 ∧ PtA H q b e 310 ∧ ∀ H', Same H H' → Q (.bl true) H'
theorem ok__law_right {f : Addr} {fd : FuncData} (F : FnP K "_law_right" s__law_right f fd) (m_range : mg "range" = none) (h_part_plus : Has P w K mg base 2 "part_plus" ["one", "other"] spPPlus) (h_part_less : Has P w K mg base 3 "part_less" ["one", "other"] spPLess) (h_part_over : Has P w K mg base 3 "part_over" ["one", "other"] spPOver)
    (h__law_part : Has P w K mg base 1 "_law_part" ["_law_num", "_law_e"] spLPart) (h__law_whole : Has P w K mg base 1 "_law_whole" ["_law_found"] spLWhole) (h_is_part : Has P w K mg base 3 "is_part" ["thing"] (spIsPart K)) (h_is_pair : Has P w K mg base 3 "is_pair" ["thing"] (spIsPair K)) : FnOk P w K mg base CX0 4 f fd ["_law_one", "_law_other"] spRight := by
  refine F.ok sc__law_right (fun vs H Q E h => ?_) (fun cdv A outer s H vs Q E hr h => ?_)
  · obtain ⟨p, q, a, b, d, e, rfl, _⟩ := h; rfl
  obtain ⟨p, q, a, b, d, e, rfl, hp, hq, k⟩ := h
  refine ⟨_, PSs.nox (pss_cons (ps_set (i := 2) sc__law_right.nd rfl (.inl rfl) (pe_op op_add (pe_ix (ix_tupE K) (pv 0) pe_int (fun _ _ => rfl)) (pe_ix (ix_tupE K) (pv 1) pe_int (fun _ _ => rfl))))
  (pss_cons (ps_set (i := 3) sc__law_right.nd rfl (.inl rfl) (pe_op op_mulA (pe_ix (ix_tupE K) (pv 0) pe_int (fun _ _ => rfl)) (pe_op op_shlA pe_int (pe_ix (ix_tupE K) (pv 1) pe_int (fun _ _ => rfl)))))
  (pss_cons (ps_set (i := 4) sc__law_right.nd rfl (.inl rfl) (pe_op op_mulA (pe_ix (ix_tupE K) (pv 1) pe_int (fun _ _ => rfl)) (pe_op op_shlA pe_int (pe_ix (ix_tupE K) (pv 0) pe_int (fun _ _ => rfl)))))
  (pss_cons (ps_for PassesOwn.never rfl (pi_range1 (by rfl) m_range (pa_cons pe_int pa_nil)) (pg_name (i := 5) sc__law_right.nd rfl (.inl rfl))
    (pss_cons (ps_set (i := 6) sc__law_right.nd rfl (.inl rfl) (pe_lst (pa_cons (pe_callH h_part_plus (hr.mono (by decide)) (by rfl) (pa_cons (pv 0) (pa_cons (pv 1) pa_nil))) (pa_cons (pe_callH h_part_less (hr.mono (by decide)) (by rfl) (pa_cons (pv 0) (pa_cons (pv 1) pa_nil))) pa_nil))))
  (pss_cons (ps_if (pt_cmpR (op_neDE K hr.units) (pv 6) (pe_lst (pa_cons (pe_callH h__law_part (hr.mono (by decide)) (by rfl) (pa_cons (pe_op op_add (pv 3) (pv 4)) (pa_cons (pv 2) pa_nil))) (pa_cons (pe_callH h__law_part (hr.mono (by decide)) (by rfl) (pa_cons (pe_op op_sub (pv 3) (pv 4)) (pa_cons (pv 2) pa_nil))) pa_nil))) (nomark _))
    (pss_one (ps_ret pe_bl))
    pss_nil)
  (pss_one (ps_if (PW.pt (pw_or (pt_not (pt_val (pe_callH h__law_whole (hr.mono (by decide)) (by rfl) (pa_cons (pe_ix (ix_listE K) (pv 6) pe_int (fun _ _ => rfl)) pa_nil)))) (pw_or (pt_not (pt_val (pe_callH h__law_whole (hr.mono (by decide)) (by rfl) (pa_cons (pe_ix (ix_listE K) (pv 6) pe_int (fun _ _ => rfl)) pa_nil)))) (pw_or (pt_not (pt_val (pe_callH h_is_part (hr.mono (by decide)) (by rfl) (pa_cons (pe_ix (ix_listE K) (pv 6) pe_int (fun _ _ => rfl)) pa_nil)))) (pw_or1 (pt_not (pt_val (pe_callH h_is_part (hr.mono (by decide)) (by rfl) (pa_cons (pe_ix (ix_listE K) (pv 6) pe_int (fun _ _ => rfl)) pa_nil)))))))))
    (pss_one (ps_ret pe_bl))
    pss_nil)))))
  (pss_cons (ps_if (pt_cmpR op_eq (pe_ix (ix_tupE K) (pv 1) pe_int (fun _ _ => rfl)) pe_int (nomark _))
    (pss_one (ps_ret pe_bl))
    pss_nil)
  (pss_cons (ps_set (i := 6) sc__law_right.nd rfl (.inl rfl) (pe_callH h_part_over (hr.mono (by decide)) (by rfl) (pa_cons (pv 0) (pa_cons (pv 1) pa_nil))))
  (pss_one (ps_ret (pe_and (pe_cmpR op_isBl (pe_callH h_is_pair (hr.mono (by decide)) (by rfl) (pa_cons (pv 6) pa_nil)) pe_bl (nomark _)) (pe_one (pe_cmpR op_eq (pe_op op_mulA (pe_ix (ix_tupE K) (pv 6) pe_int (fun _ _ => rfl)) (pv 4)) (pe_op op_mulA (pv 3) (pe_ix (ix_tupE K) (pv 6) pe_int (fun _ _ => rfl))) (nomark _)))))))))))), ?_⟩
  have ba := hp.bx
  have bb := hq.bx
  have bd := hp.be
  have be := hq.be
  walk_at "zz"
  refine z_ixT (SqT.of hp.h) (v := .int (d : Int)) rfl ?_
  walk_at "zz"
  refine z_ixT (SqT.of hq.h) (v := .int (e : Int)) rfl ?_
  walk_at "zz"
  refine z_ixT (SqT.of hp.h) (v := .int a) rfl ?_
  walk_at "zz"
  refine z_ixT (SqT.of hq.h) (v := .int (e : Int)) rfl ?_
  refine z_shlA (shl_ok (n := 1) (by decide) (by omega)) ?_
  have t1 : ∀ j : Nat, j ≤ 310 → ((1 : Int) * 2 ^ j).natAbs < 2 ^ 311 := fun j hj => by
    have := shl_b (x := 1) (m := 1) (k := j) (by decide)
    exact pw_mono this (by omega)
  rw [Int.toNat_natCast]
  refine z_mulA (mulA ba (t1 e be) (by decide) (by decide) (by decide)) ?_
  walk_at "zz"
  refine z_ixT (SqT.of hq.h) (v := .int b) rfl ?_
  walk_at "zz"
  refine z_ixT (SqT.of hp.h) (v := .int (d : Int)) rfl ?_
  refine z_shlA (shl_ok (n := 1) (by decide) (by omega)) ?_
  rw [Int.toNat_natCast]
  refine z_mulA (mulA bb (t1 d bd) (by decide) (by decide) (by decide)) ?_
  rw [Int.one_mul, Int.one_mul]
  walk_at "zz"
  refine ⟨_, rfl, by decide, by decide, for_range (lo := 0) (n := 2) (fun i σ H' => (∃ y5 y6, σ = [some (.ref p), some (.ref q), some (.int ((d : Int) + (e : Int))), some (.int (a * 2 ^ e)), some (.int (b * 2 ^ d)), y5, y6]) ∧ Same H H') ⟨⟨_, _, rfl⟩, Same.refl H⟩ ?_ ?_⟩
  · rintro i σ H1 hi ⟨⟨y5, y6, rfl⟩, s1⟩
    walk_at "zz"
    refine ⟨p, q, a, b, d, e, 310, rfl, by decide, s1 _ _ hp.h, s1 _ _ hq.h, ba, bb, bd, be, fun r2 H2 _ s2 h2 => ?_⟩
    walk_at "zz"
    refine ⟨p, q, a, b, d, e, 310, rfl, by decide, s2 _ _ (s1 _ _ hp.h), s2 _ _ (s1 _ _ hq.h), ba, bb, bd, be, fun r3 H3 _ s3 h3 => ?_⟩
    walk_at "zz"
    refine z_new (by simp) (fun r4 H4 _ s4 h4 => ?_)
    walk_at "zz"
    refine ⟨_, d + e, by rw [Int.natCast_add]; rfl, fun r5 H5 _ s5 h5 => ?_⟩
    walk_at "zz"
    refine ⟨_, d + e, by rw [Int.natCast_add]; rfl, fun r6 H6 _ s6 h6 => ?_⟩
    walk_at "zz"
    refine z_new (by simp) (fun r7 H7 _ s7 h7 => ?_)
    have s47 : Same H4 H7 := s5.trans (s6.trans s7)
    have h27 : H7 r2 = _ := s47 _ _ (s4 _ _ (s3 _ _ h2))
    have h37 : H7 r3 = _ := s47 _ _ (s4 _ _ h3)
    refine z_neD (dpTwo (s47 _ _ h4) h27 h37) (dpTwo h7 (s7 _ _ (s6 _ _ h5)) (s7 _ _ h6)) rfl rfl (k := true) (eqvTwo _ _ _ _) ?_
    walk_at "zz"
    refine z_ixL (SqL.of (s47 _ _ h4)) (v := .ref r2) rfl ?_
    walk_at "zz"
    refine ⟨r2, _, _, rfl, h27, fun H8 s8 => ?_⟩
    walk_at "zz"
    refine z_ixL (SqL.of (s8 _ _ (s47 _ _ h4))) (v := .ref r3) rfl ?_
    walk_at "zz"
    refine ⟨r3, _, _, rfl, s8 _ _ h37, fun H9 s9 => ?_⟩
    walk_at "zz"
    refine z_ixL (SqL.of (s9 _ _ (s8 _ _ (s47 _ _ h4)))) (v := .ref r2) rfl ?_
    walk_at "zz"
    refine ⟨.ref r2, true, rfl, .inr ⟨r2, _, rfl, s9 _ _ (s8 _ _ h27), .inr (.inl ⟨_, _, rfl, (ptB_is _ _).symm⟩)⟩, ?_⟩
    walk_at "zz"
    refine z_ixL (SqL.of (s9 _ _ (s8 _ _ (s47 _ _ h4)))) (v := .ref r3) rfl ?_
    walk_at "zz"
    refine ⟨.ref r3, true, rfl, .inr ⟨r3, _, rfl, s9 _ _ (s8 _ _ h37), .inr (.inl ⟨_, _, rfl, (ptB_is _ _).symm⟩)⟩, ?_⟩
    walk_at "zz"
    exact ⟨⟨_, _, rfl⟩, s1.trans (s2.trans (s3.trans (s4.trans (s47.trans (s8.trans s9)))))⟩
  · rintro σ H1 ⟨⟨y5, y6, rfl⟩, s1⟩
    walk_at "zz"
    refine z_ixT (SqT.of (s1 _ _ hq.h)) (v := .int b) rfl ?_
    walk_at "zz"
    refine z_ite (fun h => ?_) (fun h => ?_)
    · walk_at "zz"
      exact k _ s1
    walk_at "zz"
    refine ⟨p, q, a, b, d, e, 310, rfl, by decide, h, s1 _ _ hp.h, s1 _ _ hq.h, ba, bb, bd, be, fun r2 H2 _ s2 h2 => ?_⟩
    have D0 : b * 2 ^ (d - min d e) ≠ 0 := by
      intro z
      rcases Int.mul_eq_zero.mp z with z | z
      · exact h z
      · exact absurd z (Int.ne_of_gt (Int.pow_pos (by decide)))
    have low := low_pair (n := a * 2 ^ (e - min d e)) D0
    have cr := pr_cross (a * 2 ^ (e - min d e)) (b * 2 ^ (d - min d e))
    have bN := Nat.lt_of_le_of_lt (pn_le (n := a * 2 ^ (e - min d e)) D0) (shl_b ba)
    have bD := Nat.lt_of_le_of_lt (pd_le (n := a * 2 ^ (e - min d e)) D0) (shl_b bb)
    have e1 : a * 2 ^ e = a * 2 ^ (e - min d e) * 2 ^ (min d e) := by rw [Int.mul_assoc, ← Int.pow_add, show e - min d e + min d e = e by omega]
    have e2 : b * 2 ^ d = b * 2 ^ (d - min d e) * 2 ^ (min d e) := by rw [Int.mul_assoc, ← Int.pow_add, show d - min d e + min d e = d by omega]
    generalize pn (a * 2 ^ (e - min d e)) (b * 2 ^ (d - min d e)) = x at *
    generalize pd (a * 2 ^ (e - min d e)) (b * 2 ^ (d - min d e)) = y at *
    walk_at "zz"
    refine ⟨.ref r2, true, rfl, .inr ⟨r2, _, rfl, h2, .inr (.inl ⟨_, _, rfl, (prB_low low).symm⟩)⟩, ?_⟩
    walk_at "zz"
    refine z_ixT (SqT.of h2) (v := .int x) rfl ?_
    walk_at "zz"
    refine z_mulA (mulA (pw_mono bN (n := 1000) (by omega)) (pw_mono (shl_b (k := d) bb) (n := 1000) (by omega)) (by decide) (by decide) (by decide)) ?_
    walk_at "zz"
    refine z_ixT (SqT.of h2) (v := .int y) rfl ?_
    walk_at "zz"
    refine z_mulA (mulA (pw_mono (shl_b (k := e) ba) (n := 1000) (by omega)) (pw_mono bD (n := 1000) (by omega)) (by decide) (by decide) (by decide)) ?_
    walk_at "zz"
    rw [decide_eq_true (show x * (b * 2 ^ d) = a * 2 ^ e * y by rw [e1, e2]; generalize (2 : Int) ^ min d e = z; grind)]
    exact k _ (s1.trans s2)
theorem pow_int (c : Nat) : ((2 ^ c : Nat) : Int) * 2 = ((2 ^ (c + 1) : Nat) : Int) := by
  rw [Nat.pow_succ, Int.natCast_mul]
  rfl
def spLHalv : Sp := fun vs H Q _ => ∃ n : Nat, vs = [.int (n : Int)] ∧ n < 2 ^ 8000 ∧ Q (.int (Builtin.Int.intBits (n : Int) : Nat)) H
theorem ok__law_halvings {f : Addr} {fd : FuncData} (F : FnP K "_law_halvings" s__law_halvings f fd) : FnOk P w K mg base CX0 1 f fd ["_law_many"] spLHalv := by
  refine F.ok sc__law_halvings (fun vs H Q E h => ?_) (fun cdv A outer s H vs Q E hr h => ?_)
  · obtain ⟨n, rfl, _⟩ := h; rfl
  obtain ⟨n, rfl, hn, k⟩ := h
  refine ⟨_, PSs.nox (pss_cons (ps_set (i := 1) sc__law_halvings.nd rfl (.inl rfl) pe_int)
  (pss_cons (ps_set (i := 2) sc__law_halvings.nd rfl (.inl rfl) pe_int)
  (pss_cons (ps_while PassesOwn.never (pt_cmpR op_le (pv 2) (pv 0) (nomark _))
    (pss_cons (ps_set (i := 2) sc__law_halvings.nd rfl (.inl rfl) (pe_op op_mulA (pv 2) pe_int))
  (pss_one (ps_set (i := 1) sc__law_halvings.nd rfl (.inl rfl) (pe_op op_add (pv 1) pe_int)))))
  (pss_one (ps_ret (pv 1)))))), ?_⟩
  walk_at "zz"
  refine ⟨fun m σ H' => ∃ c : Nat, σ = [some (.int (n : Int)), some (.int (c : Int)), some (.int ((2 ^ c : Nat) : Int))] ∧ H = H' ∧ m = n + 1 - c ∧ ∀ d, d < c → 2 ^ d ≤ n, ⟨n + 1, 0, rfl, rfl, rfl, fun d h => by omega⟩, ?_⟩
  rintro m σ H' ⟨c, rfl, rfl, rfl, hc⟩
  walk_at "zz"
  refine z_ite (fun h => ?_) (fun h => ?_)
  · have hle : 2 ^ c ≤ n := by omega
    have hcn : c < n := Nat.lt_of_lt_of_le Nat.lt_two_pow_self hle
    walk_at "zz"
    refine ⟨_, fun _ _ h => h, ?_⟩
    walk_at "zz"
    refine z_mulA (mulR (by decide)) ?_
    walk_at "zz"
    rw [pow_int]
    refine ⟨n + 1 - (c + 1), by omega, c + 1, rfl, rfl, rfl, fun d hd => ?_⟩
    rcases (show d < c ∨ d = c by omega) with h | h
    · exact hc d h
    · rw [h]
      exact hle
  · walk_at "zz"
    rw [← bits_least (c := c) (by omega) hc]
    exact k
def spLaw (K : PySem.W.Frag) : Sp := fun vs H Q _ => ∃ (a : Addr) (ns : List Int), vs = [.ref a] ∧ SqL K H a (ns.map V.int) ∧ ns.length ≤ 63 ∧ ∀ H', Q (.bl true) H'
def PtV (H : Hp) (v : V) : Prop := ∃ (p : Addr) (x : Int) (e : Nat), v = .ref p ∧ PtA H p x e 310
theorem ptA_part {H : Hp} {p : Addr} {n : Int} {e m : Nat} (hn : n.natAbs < 2 ^ m) (he : e ≤ m) (h : H p = some (.tup [.int (partF e n).1, .int ((partF e n).2 : Int)])) : PtA H p (partF e n).1 (partF e n).2 m :=
  ⟨h, partF_is e n, Nat.lt_of_le_of_lt (partF_le e n).1 hn, Nat.le_trans (partF_le e n).2 he⟩
theorem cells {ns : List Int} (lo hi : Option Int) (hl : ns.length ≤ 63) : ∃ cs : List Int, cutV (ns.map V.int) lo hi = cs.map V.int ∧ cs.length ≤ 63 := by
  refine ⟨(ns.drop (HT.sIx (ns.map V.int).length 0 lo)).take (HT.sIx (ns.map V.int).length (ns.map V.int).length hi - HT.sIx (ns.map V.int).length 0 lo), ?_, ?_⟩
  · unfold cutV
    rw [List.map_take, List.map_drop]
  · rw [List.length_take, List.length_drop]
    omega
theorem cell_at {cs : List Int} {i : Nat} {v : V} (hv : (cs.map V.int)[i]? = some v) : ∃ c : Int, v = .int c := by
  rw [List.getElem?_map] at hv
  obtain ⟨c, _, e⟩ := Option.map_eq_some_iff.mp hv
  exact ⟨c, e.symm⟩
theorem ok_law {f : Addr} {fd : FuncData} (F : FnP K "law" s_law f fd) (m_range : mg "range" = none) (m_abs : mg "abs" = none) (h_part : Has P w K mg base 1 "part" ["num", "e"] spPart) (h_halvings : Has P w K mg base 1 "halvings" ["many"] spHalv) (h__law_part : Has P w K mg base 1 "_law_part" ["_law_num", "_law_e"] spLPart) (h__law_whole : Has P w K mg base 1 "_law_whole" ["_law_found"] spLWhole) (h__law_halvings : Has P w K mg base 1 "_law_halvings" ["_law_many"] spLHalv)
    (h__law_cell_at : Has P w K mg base 1 "_law_cell_at" ["_law_script", "_law_k"] (spCell K)) (h__law_begin : Has P w K mg base 1 "_law_begin" ["_law_cell"] (spBegin K))
    (h__law_draw : Has P w K mg base 1 "_law_draw" ["_law_source", "_law_most"] spDraw) (h__law_far : Has P w K mg base 2 "_law_far" ["_law_source"] spFar) (h__law_right : Has P w K mg base 4 "_law_right" ["_law_one", "_law_other"] spRight) : FnOk P w K mg base CX0 5 f fd ["_law_script"] (spLaw K) := by
  refine F.ok sc_law (fun vs H Q E h => ?_) (fun cdv A outer s H vs Q E hr h => ?_)
  · obtain ⟨a, ns, rfl, _⟩ := h; rfl
  obtain ⟨a, ns, rfl, hS, hlen, q⟩ := h
  refine ⟨_, PSs.nox (pss_cons (ps_for PassesOwn.never rfl (pi_listE K (pe_op op_cat (pe_lst (pa_cons (pe_callH h__law_cell_at (hr.mono (by decide)) (by rfl) (pa_cons (pv 0) (pa_cons pe_int pa_nil))) pa_nil)) (pe_slice (sl_listE K) (pv 0) (po_some pe_int) (po_some pe_int)))) (pg_name (i := 1) sc_law.nd rfl (.inl rfl))
    (pss_cons (ps_set (i := 2) sc_law.nd rfl (.inl rfl) (pe_callH h__law_begin (hr.mono (by decide)) (by rfl) (pa_cons (pv 1) pa_nil)))
  (pss_cons (ps_set (i := 3) sc_law.nd rfl (.inl rfl) (pe_callH h__law_far (hr.mono (by decide)) (by rfl) (pa_cons (pv 2) pa_nil)))
  (pss_cons (ps_set (i := 4) sc_law.nd rfl (.inl rfl) (pe_ix (ix_listE K) (pe_lst (pa_cons pe_int (pa_cons (pe_callH h__law_draw (hr.mono (by decide)) (by rfl) (pa_cons (pv 2) (pa_cons pe_int pa_nil))) (pa_cons (pe_callH h__law_draw (hr.mono (by decide)) (by rfl) (pa_cons (pv 2) (pa_cons pe_int pa_nil))) pa_nil)))) (pe_callH h__law_draw (hr.mono (by decide)) (by rfl) (pa_cons (pv 2) (pa_cons pe_int pa_nil))) (fun _ _ => rfl)))
  (pss_cons (ps_set (i := 5) sc_law.nd rfl (.inl rfl) (pe_callH h_part (hr.mono (by decide)) (by rfl) (pa_cons (pv 3) (pa_cons (pv 4) pa_nil))))
  (pss_cons (ps_if (PW.pt (pw_or (pt_cmpR (op_neDE K hr.units) (pv 5) (pe_callH h__law_part (hr.mono (by decide)) (by rfl) (pa_cons (pv 3) (pa_cons (pv 4) pa_nil))) (nomark _)) (pw_or (pt_not (pt_val (pe_callH h__law_whole (hr.mono (by decide)) (by rfl) (pa_cons (pv 5) pa_nil)))) (pw_or (pt_cmpR (op_neDE K hr.units) (pe_callH h_part (hr.mono (by decide)) (by rfl) (pa_cons (pe_op op_mulA (pv 3) pe_int) (pa_cons (pe_op op_add (pv 4) pe_int) pa_nil))) (pv 5) (nomark _)) (pw_or1 (pt_cmpR (op_neDE K hr.units) (pe_callH h_part (hr.mono (by decide)) (by rfl) (pa_cons (pv 3) (pa_cons pe_int pa_nil))) (pe_tup (pa_cons (pv 3) (pa_cons pe_int pa_nil))) (nomark _)))))))
    (pss_one (ps_ret pe_bl))
    pss_nil)
  (pss_cons (ps_set (i := 6) sc_law.nd rfl (.inl rfl) (pe_callH h_part (hr.mono (by decide)) (by rfl) (pa_cons (pe_callH h__law_far (hr.mono (by decide)) (by rfl) (pa_cons (pv 2) pa_nil)) (pa_cons (pe_callH h__law_draw (hr.mono (by decide)) (by rfl) (pa_cons (pv 2) (pa_cons pe_int pa_nil))) pa_nil))))
  (pss_cons (ps_set (i := 7) sc_law.nd rfl (.inl rfl) (pe_lst (pa_cons (pv 6) (pa_cons (pv 6) (pa_cons (pv 5) (pa_cons (pe_callH h_part (hr.mono (by decide)) (by rfl) (pa_cons (pe_op op_sub pe_int (pv 3)) (pa_cons (pv 4) pa_nil))) (pa_cons (pe_callH h_part (hr.mono (by decide)) (by rfl) (pa_cons (pe_callH h__law_far (hr.mono (by decide)) (by rfl) (pa_cons (pv 2) pa_nil)) (pa_cons (pe_ix (ix_tupE K) (pv 5) pe_int (fun _ _ => rfl)) pa_nil))) (pa_cons (pe_callH h_part (hr.mono (by decide)) (by rfl) (pa_cons (pe_op op_add (pe_op op_mulA (pv 3) pe_int) pe_int) (pa_cons (pe_op op_add (pv 4) pe_int) pa_nil))) pa_nil))))))))
  (pss_cons (ps_set (i := 8) sc_law.nd rfl (.inl rfl) (pe_ix (ix_listE K) (pv 7) (pe_callH h__law_draw (hr.mono (by decide)) (by rfl) (pa_cons (pv 2) (pa_cons pe_int pa_nil))) (fun _ _ => rfl)))
  (pss_cons (ps_if (PW.pt (pw_or (pt_not (pt_val (pe_callH h__law_right (hr.mono (by decide)) (by rfl) (pa_cons (pv 5) (pa_cons (pv 8) pa_nil))))) (pw_or1 (pt_not (pt_val (pe_callH h__law_right (hr.mono (by decide)) (by rfl) (pa_cons (pv 8) (pa_cons (pv 5) pa_nil))))))))
    (pss_one (ps_ret pe_bl))
    pss_nil)
  (pss_cons (ps_set (i := 9) sc_law.nd rfl (.inl rfl) (pe_callB call_absE (by rfl) m_abs (by decide +kernel) (pa_cons (pe_callH h__law_far (hr.mono (by decide)) (by rfl) (pa_cons (pv 2) pa_nil)) pa_nil)))
  (pss_one (ps_if (pt_cmpR op_ne (pe_callH h_halvings (hr.mono (by decide)) (by rfl) (pa_cons (pv 9) pa_nil)) (pe_callH h__law_halvings (hr.mono (by decide)) (by rfl) (pa_cons (pv 9) pa_nil)) (nomark _))
    (pss_one (ps_ret pe_bl))
    pss_nil)))))))))))))
  (pss_one (ps_ret (pe_and (pe_cmpR (op_eqDE K hr.units) (pe_lc (own := [("_law_k", 10)]) (g := (gName 10)) (by rfl) sc_law.nd (pi_range1 (by rfl) m_range (pa_cons pe_int pa_nil)) (blkOk_by (own := [("_law_k", 10)]) (N := ["_law_script", "_law_cell", "_law_source", "_law_num", "_law_e", "_law_one", "_law_drawn", "_law_some", "_law_other", "_law_many", "_law_k"]) (sc := defScope s_law) (by decide +kernel)) (fun _ _ _ _ _ => (pg_name (i := 10) sc_law.nd rfl (.inl rfl))) (fun _ _ _ _ _ => pts_nil) (fun _ _ _ _ _ => (pe_callH h_halvings (hr.mono (by decide)) (by rfl) (pa_cons (pv 10) pa_nil)))) (pe_lst (pa_cons pe_int (pa_cons pe_int (pa_cons pe_int (pa_cons pe_int (pa_cons pe_int (pa_cons pe_int (pa_cons pe_int (pa_cons pe_int (pa_cons pe_int pa_nil)))))))))) (nomark _)) (pe_one (pe_cmpR (op_eqDE K hr.units) (pe_callH h_part (hr.mono (by decide)) (by rfl) (pa_cons pe_int (pa_cons pe_int pa_nil))) (pe_tup (pa_cons pe_int (pa_cons pe_int pa_nil))) (nomark _))))))), ?_⟩
  walk_at "zz"
  refine ⟨a, ns, 0, rfl, hS, hlen, fun c0 => ?_⟩
  walk_at "zz"
  refine z_new (by simp) (fun p1 H1 n1 s1 h1 => ?_)
  walk_at "zz"
  refine z_slL (s1.seq hS) (fun p2 H2 n2 s2 h2 => ?_)
  obtain ⟨cs, hcs, hcl⟩ := cells (some 1) (some 20) hlen
  rw [hcs] at h2
  refine z_cat (s2 _ _ h1) h2 (by simp; omega) (fun p3 H3 n3 s3 h3 => ?_)
  refine ⟨p3, rfl, ⟨_, SqL.of h3⟩, for_list (xs := (c0 :: cs).map V.int) (fun i σ H' => (∃ y1 y2 y3 y4 y5 y6 y7 y8 y9 y10, σ = [some (.ref a), y1, y2, y3, y4, y5, y6, y7, y8, y9, y10]) ∧ H' p3 = some (.lst ((c0 :: cs).map V.int))) ⟨⟨_, _, _, _, _, _, _, _, _, _, rfl⟩, h3⟩ (fun i σ H' _ h => SqL.of h.2) ?_ ?_⟩
  · rintro i v σ H4 hv ⟨⟨y1, y2, y3, y4, y5, y6, y7, y8, y9, y10, rfl⟩, h4⟩
    obtain ⟨c, rfl⟩ := cell_at hv
    walk_at "zz"
    refine ⟨c, rfl, fun s5 H5 n5 e5 r5 => ?_⟩
    have h5 := e5 _ _ h4
    have ne5 : p3 ≠ s5 := ne_of_none h4 n5
    walk_at "zz"
    refine ⟨s5, rfl, r5, fun num H6 hnum d6 => ?_⟩
    walk_at "zz"
    refine ⟨s5, _, rfl, by decide, by decide +kernel, d6.src, fun x1 H7 x10 x11 d7 => ?_⟩
    walk_at "zz"
    refine ⟨s5, _, rfl, by decide, by decide +kernel, d7.src, fun x2 H8 x20 x21 d8 => ?_⟩
    walk_at "zz"
    refine z_new (by simp) (fun l9 H9 n9 e9 hl9 => ?_)
    walk_at "zz"
    refine ⟨s5, _, rfl, by decide, by decide +kernel, d8.src.same e9, fun x3 H10 x30 x31 d10 => ?_⟩
    have hl10 := d10.keep _ _ (d8.src.ne n9) hl9
    obtain ⟨ei, hpick, he⟩ : ∃ ei : Nat, atI [V.int 0, V.int x1, V.int x2] x3 = some (.int (ei : Int)) ∧ ei ≤ 100 := by
      rcases (show x3 = 0 ∨ x3 = 1 ∨ x3 = 2 by omega) with rfl | rfl | rfl
      · exact ⟨0, rfl, by decide⟩
      · exact ⟨x1.toNat, by rw [show ((x1.toNat : Nat) : Int) = x1 by omega]; rfl, by omega⟩
      · exact ⟨x2.toNat, by rw [show ((x2.toNat : Nat) : Int) = x2 by omega]; rfl, by omega⟩
    refine z_ixL (SqL.of hl10) hpick ?_
    have d10' : Dr s5 H5 H10 := (d6.trans d7).trans (d8.trans ((Dr.of_same d8.src e9).trans d10))
    have hnum3 : num.natAbs < 2 ^ 310 := pw_mono hnum (by decide)
    walk_at "zz"
    refine ⟨num, ei, rfl, fun po H11 _ e11 ho11 => ?_⟩
    walk_at "zz"
    refine ⟨num, ei, rfl, fun pt H12 _ e12 ht12 => ?_⟩
    refine z_neD (dpPair (e12 _ _ ho11)) (dpPair ht12) (shPair _ _) (shPair _ _) (k := true) (eqvPair_of rfl rfl) ?_
    have ho12 := e12 _ _ ho11
    walk_at "zz"
    refine ⟨po, _, _, rfl, ho12, fun H13 e13 => ?_⟩
    walk_at "zz"
    refine z_mulA (mulR (by decide)) ?_
    walk_at "zz"
    refine ⟨num * 8, ei + 3, rfl, fun pu H14 _ e14 hu14 => ?_⟩
    have ho14 := e14 _ _ (e13 _ _ ho12)
    rw [show num * 8 = num * 2 ^ 3 from rfl, partF_shift] at hu14
    walk_at "zz"
    refine z_neD (dpPair hu14) (dpPair ho14) (shPair _ _) (shPair _ _) (k := true) (eqvPair_of rfl rfl) ?_
    walk_at "zz"
    refine ⟨num, 0, rfl, fun pv H15 _ e15 hv15 => ?_⟩
    walk_at "zz"
    refine z_new (by simp) (fun pw H16 _ e16 hw16 => ?_)
    refine z_neD (dpPair (e16 _ _ hv15)) (dpPair hw16) (shPair _ _) (shPair _ _) (k := true) (eqvPair_of rfl rfl) ?_
    have A16 : PtA H16 po (partF ei num).1 (partF ei num).2 310 := ptA_part hnum3 (by omega) (e16 _ _ (e15 _ _ ho14))
    have d16 : Dr s5 H5 H16 := d10'.trans (Dr.of_same d10.src (e11.trans (e12.trans (e13.trans (e14.trans (e15.trans e16))))))
    walk_at "zz"
    refine ⟨s5, rfl, d16.src, fun n2 H17 hn2 d17 => ?_⟩
    walk_at "zz"
    refine ⟨s5, _, rfl, by decide, by decide +kernel, d17.src, fun e2 H18 e20 e21 d18 => ?_⟩
    obtain ⟨e2, rfl⟩ : ∃ z : Nat, e2 = (z : Int) := ⟨e2.toNat, by omega⟩
    walk_at "zz"
    refine ⟨n2, e2, rfl, fun qa H19 _ f19 ha19 => ?_⟩
    have B19 : PtA H19 qa _ _ 310 := ptA_part (pw_mono hn2 (by decide)) (by omega) ha19
    have A19 := (((A16.dr d17).dr d18).same f19)
    have d19 := ((d16.trans d17).trans d18).trans (Dr.of_same d18.src f19)
    walk_at "zz"
    refine ⟨0 - num, ei, rfl, fun qb H20 _ f20 hb20 => ?_⟩
    have C20 : PtA H20 qb _ _ 310 := ptA_part (by omega) (by omega) hb20
    have A20 := A19.same f20
    have B20 := B19.same f20
    walk_at "zz"
    refine ⟨s5, rfl, d19.src.same f20, fun n3 H21 hn3 d21 => ?_⟩
    have A21 := A20.dr d21
    walk_at "zz"
    refine z_ixT (SqT.of A21.h) (v := .int ((partF ei num).2 : Int)) rfl ?_
    walk_at "zz"
    refine ⟨n3, (partF ei num).2, rfl, fun qc H22 _ f22 hc22 => ?_⟩
    have G22 : PtA H22 qc _ _ 310 := ptA_part (pw_mono hn3 (by decide)) A21.be hc22
    walk_at "zz"
    refine z_mulA (mulR (by decide)) ?_
    walk_at "zz"
    refine ⟨num * 2 + 1, ei + 1, rfl, fun qd H23 _ f23 hd23 => ?_⟩
    have I23 : PtA H23 qd _ _ 310 := ptA_part (by
      have : (2 : Nat) ^ 200 * 4 ≤ 2 ^ 310 := by decide
      omega) (by omega) hd23
    walk_at "zz"
    refine z_new (by simp) (fun ql H24 nl f24 hl24 => ?_)
    have f2 := f22.trans (f23.trans f24)
    have d24 : Dr s5 H5 H24 := d19.trans ((Dr.of_same d19.src f20).trans (d21.trans (Dr.of_same d21.src f2)))
    walk_at "zz"
    refine ⟨s5, _, rfl, by decide, by decide +kernel, d24.src, fun r H25 r0 r1 d25 => ?_⟩
    have A25 : PtA H25 po _ _ 310 := (A21.same f2).dr d25
    have hl25 := d25.keep _ _ (((d21.src.same f22).same f23).ne nl) hl24
    obtain ⟨v, hpick2, pq, x, e, rfl, X25⟩ : ∃ v, atI [V.ref qa, V.ref qa, V.ref po, V.ref qb, V.ref qc, V.ref qd] r = some v ∧ PtV H25 v := by
      have ka : PtV H25 (.ref qa) := ⟨qa, _, _, rfl, ((B20.dr d21).same f2).dr d25⟩
      have ko : PtV H25 (.ref po) := ⟨po, _, _, rfl, A25⟩
      have kb : PtV H25 (.ref qb) := ⟨qb, _, _, rfl, ((C20.dr d21).same f2).dr d25⟩
      have kc : PtV H25 (.ref qc) := ⟨qc, _, _, rfl, (G22.same (f23.trans f24)).dr d25⟩
      have kd : PtV H25 (.ref qd) := ⟨qd, _, _, rfl, (I23.same f24).dr d25⟩
      rcases (show r = 0 ∨ r = 1 ∨ r = 2 ∨ r = 3 ∨ r = 4 ∨ r = 5 by omega) with rfl | rfl | rfl | rfl | rfl | rfl
      · exact ⟨_, rfl, ka⟩
      · exact ⟨_, rfl, ka⟩
      · exact ⟨_, rfl, ko⟩
      · exact ⟨_, rfl, kb⟩
      · exact ⟨_, rfl, kc⟩
      · exact ⟨_, rfl, kd⟩
    refine z_ixL (SqL.of hl25) hpick2 ?_
    walk_at "zz"
    refine ⟨po, pq, _, _, _, _, rfl, A25, X25, fun H26 f26 => ?_⟩
    walk_at "zz"
    refine ⟨pq, po, _, _, _, _, rfl, X25.same f26, A25.same f26, fun H27 f27 => ?_⟩
    have d27 : Dr s5 H5 H27 := (d24.trans d25).trans (Dr.of_same d25.src (f26.trans f27))
    walk_at "zz"
    refine ⟨s5, rfl, d27.src, fun n4 H28 hn4 d28 => ?_⟩
    walk_at "zz"
    refine ⟨n4.natAbs, rfl, ?_⟩
    walk_at "zz"
    refine ⟨n4.natAbs, rfl, pw_mono hn4 (by decide), ?_⟩
    walk_at "zz"
    rw [decide_eq_true rfl]
    walk_at "zz"
    exact ⟨⟨_, _, _, _, _, _, _, _, _, _, rfl⟩, (d27.trans d28).keep _ _ ne5 h5⟩
  · rintro σ H4 ⟨⟨y1, y2, y3, y4, y5, y6, y7, y8, y9, y10, rfl⟩, h4⟩
    walk_at "zz"
    refine ⟨_, rfl, by decide, by decide, fun Dl nD => lc_range (lo := 0) (n := 9) (fun i H' => H' Dl = some (.lst ((List.range i).map fun (j : Nat) => V.int ((Builtin.Int.intBits ((j : Nat) : Int) : Nat) : Int)))) upd_same ?_ ?_⟩
    · intro i H5 hi h5
      refine ⟨rfl, ?_⟩
      walk_at "zz"
      refine ⟨i, by rw [Int.zero_add]; rfl, ?_⟩
      refine ⟨_, h5, small1000 (by simp; omega), ?_⟩
      rw [List.range_succ, List.map_append]
      exact upd_same
    · intro H5 h5
      walk_at "zz"
      refine z_new (by simp) (fun l6 H6 n6 e6 h6 => ?_)
      have e9 : ((List.range 9).map fun (j : Nat) => V.int ((Builtin.Int.intBits ((j : Nat) : Int) : Nat) : Int)) = [V.int 0, V.int 1, V.int 2, V.int 2, V.int 3, V.int 3, V.int 3, V.int 3, V.int 4] := by decide +kernel
      rw [e9] at h5
      have dp9 : ∀ {l : Addr} {H : Hp}, H l = some (.lst [V.int 0, V.int 1, V.int 2, V.int 2, V.int 3, V.int 3, V.int 3, V.int 3, V.int 4]) → Dp K H (.ref l) (.list [.int 0, .int 1, .int 2, .int 2, .int 3, .int 3, .int 3, .int 3, .int 4]) := fun h => .lst (SqL.of h) (.cons (.int _) (.cons (.int _) (.cons (.int _) (.cons (.int _) (.cons (.int _) (.cons (.int _) (.cons (.int _) (.cons (.int _) (.cons (.int _) .nil)))))))))
      refine z_eqD (dp9 (e6 _ _ h5)) (dp9 h6) rfl rfl (k := true) (by decide +kernel) ?_
      walk_at "zz"
      refine ⟨0, 50, rfl, fun p7 H7 n7 e7 h7 => ?_⟩
      walk_at "zz"
      refine z_new (by simp) (fun l8 H8 n8 e8 h8 => ?_)
      rw [partF_zero] at h7
      exact z_eqD (dpPair (e8 _ _ h7)) (dpPair h8) (shPair _ _) (shPair _ _) (k := true) (eqvPair_of rfl rfl) (q _)
end
/-! ### the head: facts by names, the run -/
def d_is_whole_number : He.DefD := ⟨("is_whole_number", none), "is_whole_number", "is_whole_number", defArgs (topS 1), defBody (topS 1), defScope (topS 1), [], []⟩
def d_is_two_whole_numbers : He.DefD := ⟨("is_two_whole_numbers", none), "is_two_whole_numbers", "is_two_whole_numbers", defArgs (topS 2), defBody (topS 2), defScope (topS 2), [], []⟩
def d_greatest_divisor : He.DefD := ⟨("greatest_divisor", none), "greatest_divisor", "greatest_divisor", defArgs (topS 3), defBody (topS 3), defScope (topS 3), [], []⟩
def d_pair : He.DefD := ⟨("pair", none), "pair", "pair", defArgs (topS 4), defBody (topS 4), defScope (topS 4), [], []⟩
def d_is_pair : He.DefD := ⟨("is_pair", none), "is_pair", "is_pair", defArgs (topS 5), defBody (topS 5), defScope (topS 5), [], []⟩
def d_part : He.DefD := ⟨("part", none), "part", "part", defArgs (topS 6), defBody (topS 6), defScope (topS 6), [], []⟩
def d_is_part : He.DefD := ⟨("is_part", none), "is_part", "is_part", defArgs (topS 7), defBody (topS 7), defScope (topS 7), [], []⟩
def d_part_plus : He.DefD := ⟨("part_plus", none), "part_plus", "part_plus", defArgs (topS 8), defBody (topS 8), defScope (topS 8), [], []⟩
def d_part_less : He.DefD := ⟨("part_less", none), "part_less", "part_less", defArgs (topS 9), defBody (topS 9), defScope (topS 9), [], []⟩
def d_part_over : He.DefD := ⟨("part_over", none), "part_over", "part_over", defArgs (topS 10), defBody (topS 10), defScope (topS 10), [], []⟩
def d_halvings : He.DefD := ⟨("halvings", none), "halvings", "halvings", defArgs (topS 11), defBody (topS 11), defScope (topS 11), [], []⟩
def d__law_cell_at : He.DefD := ⟨("_law_cell_at", none), "_law_cell_at", "_law_cell_at", defArgs (topS 13), defBody (topS 13), defScope (topS 13), [], []⟩
def d__law_begin : He.DefD := ⟨("_law_begin", none), "_law_begin", "_law_begin", defArgs (topS 14), defBody (topS 14), defScope (topS 14), [], []⟩
def d__law_draw : He.DefD := ⟨("_law_draw", none), "_law_draw", "_law_draw", defArgs (topS 15), defBody (topS 15), defScope (topS 15), [], []⟩
def d__law_far : He.DefD := ⟨("_law_far", none), "_law_far", "_law_far", defArgs (topS 16), defBody (topS 16), defScope (topS 16), [], []⟩
def d__law_part : He.DefD := ⟨("_law_part", none), "_law_part", "_law_part", defArgs (topS 17), defBody (topS 17), defScope (topS 17), [], []⟩
def d__law_whole : He.DefD := ⟨("_law_whole", none), "_law_whole", "_law_whole", defArgs (topS 18), defBody (topS 18), defScope (topS 18), [], []⟩
def d__law_right : He.DefD := ⟨("_law_right", none), "_law_right", "_law_right", defArgs (topS 19), defBody (topS 19), defScope (topS 19), [], []⟩
def d__law_halvings : He.DefD := ⟨("_law_halvings", none), "_law_halvings", "_law_halvings", defArgs (topS 20), defBody (topS 20), defScope (topS 20), [], []⟩
def d_law : He.DefD := ⟨("law", none), "law", "law", defArgs (topS 21), defBody (topS 21), defScope (topS 21), [], []⟩
def fn : List He.DefD := [d_greatest_divisor, d_pair, d_is_whole_number, d_is_two_whole_numbers, d_is_pair, d_part, d_is_part, d_part_plus, d_part_less, d_part_over, d_halvings, d__law_cell_at, d__law_begin, d__law_draw, d__law_far, d__law_part, d__law_whole, d__law_right, d__law_halvings, d_law]
def fa : List He.Fa := [.glo "greatest_divisor", .glo "pair", .glo "is_whole_number", .glo "is_two_whole_numbers", .glo "is_pair", .glo "part", .glo "is_part", .glo "part_plus", .glo "part_less", .glo "part_over", .glo "halvings", .glo "_law_cell_at", .glo "_law_begin", .glo "_law_draw", .glo "_law_far", .glo "_law_part", .glo "_law_whole", .glo "_law_right", .glo "_law_halvings", .glo "law", .free "abs", .free "isinstance", .free "int", .free "bool", .free "tuple", .free "len", .free "range", .free "min", .free "max"]
abbrev R : PySem.W.OpenRow := PySem.W.OpenLaw.row PySem.Challenge.rw_sumtold_k05_parts_reckoned
abbrev hk : PySem.W.Hook := He.hookD 22 fa fn
def ob (s : PySem.W.SharedT) : He.AlD := He.obsDG 22 fa fn (HandSHeadRun.getT s)
theorem ob_eq (s : PySem.W.SharedT) : ob s = hk.obs s.abs := He.obsDG_eq (HandSHeadRun.getT_eq s)
theorem run (w : World) : HandSHeadRun.RunEq R (PySem.W.view R.prog [21]) hk ob 1500 ["is_whole_number", "is_two_whole_numbers", "greatest_divisor", "pair", "is_pair", "part", "is_part", "part_plus", "part_less", "part_over", "halvings", "_law_cell_at", "_law_begin", "_law_draw", "_law_far", "_law_part", "_law_whole", "_law_right", "_law_halvings"] w := by
  intro os
  kernel_rfl
theorem facts {P : Program} {w : World} {K : PySem.W.Frag} {h : Heap} {mg : Str → Option Value} {f : Addr} (X : K.In h) (G : h.Ns mainGlobals mg) (hfa : mg ("law" : Str) = some (.ref f)) (c : He.SaysD fa fn K) :
    ∃ fd : FuncData, (∀ (s : Shared) (v : Value), BindsTo s fd ⟨[v], []⟩ [("_law_script", v)]) ∧ ∀ base : Heap, K.In base → base.Ns mainGlobals mg → FnOk P w K mg base CX0 5 f fd ["_law_script"] (spLaw K) := by
  obtain ⟨fd_greatest_divisor, F_greatest_divisor⟩ := c.def_ 0 (d := d_greatest_divisor) rfl
  obtain ⟨fd_pair, F_pair⟩ := c.def_ 1 (d := d_pair) rfl
  obtain ⟨fd_is_whole_number, F_is_whole_number⟩ := c.def_ 2 (d := d_is_whole_number) rfl
  obtain ⟨fd_is_two_whole_numbers, F_is_two_whole_numbers⟩ := c.def_ 3 (d := d_is_two_whole_numbers) rfl
  obtain ⟨fd_is_pair, F_is_pair⟩ := c.def_ 4 (d := d_is_pair) rfl
  obtain ⟨fd_part, F_part⟩ := c.def_ 5 (d := d_part) rfl
  obtain ⟨fd_is_part, F_is_part⟩ := c.def_ 6 (d := d_is_part) rfl
  obtain ⟨fd_part_plus, F_part_plus⟩ := c.def_ 7 (d := d_part_plus) rfl
  obtain ⟨fd_part_less, F_part_less⟩ := c.def_ 8 (d := d_part_less) rfl
  obtain ⟨fd_part_over, F_part_over⟩ := c.def_ 9 (d := d_part_over) rfl
  obtain ⟨fd_halvings, F_halvings⟩ := c.def_ 10 (d := d_halvings) rfl
  obtain ⟨fd__law_cell_at, F__law_cell_at⟩ := c.def_ 11 (d := d__law_cell_at) rfl
  obtain ⟨fd__law_begin, F__law_begin⟩ := c.def_ 12 (d := d__law_begin) rfl
  obtain ⟨fd__law_draw, F__law_draw⟩ := c.def_ 13 (d := d__law_draw) rfl
  obtain ⟨fd__law_far, F__law_far⟩ := c.def_ 14 (d := d__law_far) rfl
  obtain ⟨fd__law_part, F__law_part⟩ := c.def_ 15 (d := d__law_part) rfl
  obtain ⟨fd__law_whole, F__law_whole⟩ := c.def_ 16 (d := d__law_whole) rfl
  obtain ⟨fd__law_right, F__law_right⟩ := c.def_ 17 (d := d__law_right) rfl
  obtain ⟨fd__law_halvings, F__law_halvings⟩ := c.def_ 18 (d := d__law_halvings) rfl
  obtain ⟨fd_law, F_law⟩ := c.def_ 19 (d := d_law) rfl
  have e := hfa.symm.trans (He.glo_ok X G (c.fact 19 (f := .glo "law") rfl))
  cases e
  have g_greatest_divisor := He.glo_ok X G (c.fact 0 (f := .glo "greatest_divisor") rfl)
  have g_pair := He.glo_ok X G (c.fact 1 (f := .glo "pair") rfl)
  have g_is_whole_number := He.glo_ok X G (c.fact 2 (f := .glo "is_whole_number") rfl)
  have g_is_two_whole_numbers := He.glo_ok X G (c.fact 3 (f := .glo "is_two_whole_numbers") rfl)
  have g_is_pair := He.glo_ok X G (c.fact 4 (f := .glo "is_pair") rfl)
  have g_part := He.glo_ok X G (c.fact 5 (f := .glo "part") rfl)
  have g_is_part := He.glo_ok X G (c.fact 6 (f := .glo "is_part") rfl)
  have g_part_plus := He.glo_ok X G (c.fact 7 (f := .glo "part_plus") rfl)
  have g_part_less := He.glo_ok X G (c.fact 8 (f := .glo "part_less") rfl)
  have g_part_over := He.glo_ok X G (c.fact 9 (f := .glo "part_over") rfl)
  have g_halvings := He.glo_ok X G (c.fact 10 (f := .glo "halvings") rfl)
  have g__law_cell_at := He.glo_ok X G (c.fact 11 (f := .glo "_law_cell_at") rfl)
  have g__law_begin := He.glo_ok X G (c.fact 12 (f := .glo "_law_begin") rfl)
  have g__law_draw := He.glo_ok X G (c.fact 13 (f := .glo "_law_draw") rfl)
  have g__law_far := He.glo_ok X G (c.fact 14 (f := .glo "_law_far") rfl)
  have g__law_part := He.glo_ok X G (c.fact 15 (f := .glo "_law_part") rfl)
  have g__law_whole := He.glo_ok X G (c.fact 16 (f := .glo "_law_whole") rfl)
  have g__law_right := He.glo_ok X G (c.fact 17 (f := .glo "_law_right") rfl)
  have g__law_halvings := He.glo_ok X G (c.fact 18 (f := .glo "_law_halvings") rfl)
  have m_abs := He.free_ok X G (c.fact 20 (f := .free "abs") rfl)
  have m_isinstance := He.free_ok X G (c.fact 21 (f := .free "isinstance") rfl)
  have m_int := He.free_ok X G (c.fact 22 (f := .free "int") rfl)
  have m_bool := He.free_ok X G (c.fact 23 (f := .free "bool") rfl)
  have m_tuple := He.free_ok X G (c.fact 24 (f := .free "tuple") rfl)
  have m_len := He.free_ok X G (c.fact 25 (f := .free "len") rfl)
  have m_range := He.free_ok X G (c.fact 26 (f := .free "range") rfl)
  have m_min := He.free_ok X G (c.fact 27 (f := .free "min") rfl)
  have m_max := He.free_ok X G (c.fact 28 (f := .free "max") rfl)
  have b_greatest_divisor : Binds K fd_greatest_divisor ["one", "other"] [] := F_greatest_divisor.bindsN fun _ _ _ _ _ _ us hl => match us, hl with | [_, _], _ => rfl
  have b_pair : Binds K fd_pair ["num", "den"] [] := F_pair.bindsN fun _ _ _ _ _ _ us hl => match us, hl with | [_, _], _ => rfl
  have b_is_whole_number : Binds K fd_is_whole_number ["thing"] [] := F_is_whole_number.bindsN fun _ _ _ _ _ _ us hl => match us, hl with | [_], _ => rfl
  have b_is_two_whole_numbers : Binds K fd_is_two_whole_numbers ["thing"] [] := F_is_two_whole_numbers.bindsN fun _ _ _ _ _ _ us hl => match us, hl with | [_], _ => rfl
  have b_is_pair : Binds K fd_is_pair ["thing"] [] := F_is_pair.bindsN fun _ _ _ _ _ _ us hl => match us, hl with | [_], _ => rfl
  have b_part : Binds K fd_part ["num", "e"] [] := F_part.bindsN fun _ _ _ _ _ _ us hl => match us, hl with | [_, _], _ => rfl
  have b_is_part : Binds K fd_is_part ["thing"] [] := F_is_part.bindsN fun _ _ _ _ _ _ us hl => match us, hl with | [_], _ => rfl
  have b_part_plus : Binds K fd_part_plus ["one", "other"] [] := F_part_plus.bindsN fun _ _ _ _ _ _ us hl => match us, hl with | [_, _], _ => rfl
  have b_part_less : Binds K fd_part_less ["one", "other"] [] := F_part_less.bindsN fun _ _ _ _ _ _ us hl => match us, hl with | [_, _], _ => rfl
  have b_part_over : Binds K fd_part_over ["one", "other"] [] := F_part_over.bindsN fun _ _ _ _ _ _ us hl => match us, hl with | [_, _], _ => rfl
  have b_halvings : Binds K fd_halvings ["many"] [] := F_halvings.bindsN fun _ _ _ _ _ _ us hl => match us, hl with | [_], _ => rfl
  have b__law_cell_at : Binds K fd__law_cell_at ["_law_script", "_law_k"] [] := F__law_cell_at.bindsN fun _ _ _ _ _ _ us hl => match us, hl with | [_, _], _ => rfl
  have b__law_begin : Binds K fd__law_begin ["_law_cell"] [] := F__law_begin.bindsN fun _ _ _ _ _ _ us hl => match us, hl with | [_], _ => rfl
  have b__law_draw : Binds K fd__law_draw ["_law_source", "_law_most"] [] := F__law_draw.bindsN fun _ _ _ _ _ _ us hl => match us, hl with | [_, _], _ => rfl
  have b__law_far : Binds K fd__law_far ["_law_source"] [] := F__law_far.bindsN fun _ _ _ _ _ _ us hl => match us, hl with | [_], _ => rfl
  have b__law_part : Binds K fd__law_part ["_law_num", "_law_e"] [] := F__law_part.bindsN fun _ _ _ _ _ _ us hl => match us, hl with | [_, _], _ => rfl
  have b__law_whole : Binds K fd__law_whole ["_law_found"] [] := F__law_whole.bindsN fun _ _ _ _ _ _ us hl => match us, hl with | [_], _ => rfl
  have b__law_right : Binds K fd__law_right ["_law_one", "_law_other"] [] := F__law_right.bindsN fun _ _ _ _ _ _ us hl => match us, hl with | [_, _], _ => rfl
  have b__law_halvings : Binds K fd__law_halvings ["_law_many"] [] := F__law_halvings.bindsN fun _ _ _ _ _ _ us hl => match us, hl with | [_], _ => rfl
  have b_law := FunD.bindsA (ps := ["_law_script"]) F_law fun _ _ _ _ _ _ us hl => match us, hl with | [_], _ => rfl
  refine ⟨fd_law, fun s v => b_law s [v] rfl, fun base _ _ => ?_⟩
  have h_greatest_divisor : Has P w K mg base _ "greatest_divisor" _ _ := ⟨_, fd_greatest_divisor, ok_greatest_divisor (P := P) (w := w) (base := base) F_greatest_divisor m_abs, F_greatest_divisor.kp, b_greatest_divisor, g_greatest_divisor⟩
  have h_pair : Has P w K mg base _ "pair" _ _ := ⟨_, fd_pair, ok_pair (P := P) (w := w) (base := base) F_pair h_greatest_divisor, F_pair.kp, b_pair, g_pair⟩
  have h_is_whole_number : Has P w K mg base _ "is_whole_number" _ _ := ⟨_, fd_is_whole_number, ok_is_whole_number (P := P) (w := w) (base := base) F_is_whole_number m_isinstance m_int m_bool, F_is_whole_number.kp, b_is_whole_number, g_is_whole_number⟩
  have h_is_two_whole_numbers : Has P w K mg base _ "is_two_whole_numbers" _ _ := ⟨_, fd_is_two_whole_numbers, ok_is_two_whole_numbers (P := P) (w := w) (base := base) F_is_two_whole_numbers m_isinstance m_tuple m_len h_is_whole_number, F_is_two_whole_numbers.kp, b_is_two_whole_numbers, g_is_two_whole_numbers⟩
  have h_is_pair : Has P w K mg base _ "is_pair" _ _ := ⟨_, fd_is_pair, ok_is_pair (P := P) (w := w) (base := base) F_is_pair h_is_two_whole_numbers h_greatest_divisor, F_is_pair.kp, b_is_pair, g_is_pair⟩
  have h_part : Has P w K mg base _ "part" _ _ := ⟨_, fd_part, ok_part (P := P) (w := w) (base := base) F_part m_min, F_part.kp, b_part, g_part⟩
  have h_is_part : Has P w K mg base _ "is_part" _ _ := ⟨_, fd_is_part, ok_is_part (P := P) (w := w) (base := base) F_is_part h_is_two_whole_numbers, F_is_part.kp, b_is_part, g_is_part⟩
  have h_part_plus : Has P w K mg base _ "part_plus" _ _ := ⟨_, fd_part_plus, ok_part_plus (P := P) (w := w) (base := base) F_part_plus m_max h_part, F_part_plus.kp, b_part_plus, g_part_plus⟩
  have h_part_less : Has P w K mg base _ "part_less" _ _ := ⟨_, fd_part_less, ok_part_less (P := P) (w := w) (base := base) F_part_less h_part_plus, F_part_less.kp, b_part_less, g_part_less⟩
  have h_part_over : Has P w K mg base _ "part_over" _ _ := ⟨_, fd_part_over, ok_part_over (P := P) (w := w) (base := base) F_part_over m_min h_pair, F_part_over.kp, b_part_over, g_part_over⟩
  have h_halvings : Has P w K mg base _ "halvings" _ _ := ⟨_, fd_halvings, ok_halvings (P := P) (w := w) (base := base) F_halvings , F_halvings.kp, b_halvings, g_halvings⟩
  have h__law_cell_at : Has P w K mg base _ "_law_cell_at" _ _ := ⟨_, fd__law_cell_at, ok__law_cell_at (P := P) (w := w) (base := base) F__law_cell_at m_len, F__law_cell_at.kp, b__law_cell_at, g__law_cell_at⟩
  have h__law_begin : Has P w K mg base _ "_law_begin" _ _ := ⟨_, fd__law_begin, ok__law_begin (P := P) (w := w) (base := base) F__law_begin m_int, F__law_begin.kp, b__law_begin, g__law_begin⟩
  have h__law_draw : Has P w K mg base _ "_law_draw" _ _ := ⟨_, fd__law_draw, ok__law_draw (P := P) (w := w) (base := base) F__law_draw , F__law_draw.kp, b__law_draw, g__law_draw⟩
  have h__law_far : Has P w K mg base _ "_law_far" _ _ := ⟨_, fd__law_far, ok__law_far (P := P) (w := w) (base := base) F__law_far m_range h__law_draw, F__law_far.kp, b__law_far, g__law_far⟩
  have h__law_part : Has P w K mg base _ "_law_part" _ _ := ⟨_, fd__law_part, ok__law_part (P := P) (w := w) (base := base) F__law_part , F__law_part.kp, b__law_part, g__law_part⟩
  have h__law_whole : Has P w K mg base _ "_law_whole" _ _ := ⟨_, fd__law_whole, ok__law_whole (P := P) (w := w) (base := base) F__law_whole m_isinstance m_tuple m_bool, F__law_whole.kp, b__law_whole, g__law_whole⟩
  have h__law_right : Has P w K mg base _ "_law_right" _ _ := ⟨_, fd__law_right, ok__law_right (P := P) (w := w) (base := base) F__law_right m_range h_part_plus h_part_less h_part_over h__law_part h__law_whole h_is_part h_is_pair, F__law_right.kp, b__law_right, g__law_right⟩
  have h__law_halvings : Has P w K mg base _ "_law_halvings" _ _ := ⟨_, fd__law_halvings, ok__law_halvings (P := P) (w := w) (base := base) F__law_halvings , F__law_halvings.kp, b__law_halvings, g__law_halvings⟩
  exact ok_law (P := P) (w := w) (base := base) F_law m_range m_abs h_part h_halvings h__law_part h__law_whole h__law_halvings h__law_cell_at h__law_begin h__law_draw h__law_far h__law_right
end Zl
open PySem PySem.W PySem.Calls PyProof.Rows
theorem PySem.Challenge.cw_sumtold_k05_parts_reckoned_holds : PySem.Challenge.rw_sumtold_k05_parts_reckoned.Holds := by
  w_on; o_law
  refine HandSHeadRun.head_any (r := OpenLaw.row PySem.Challenge.rw_sumtold_k05_parts_reckoned) (q := view (OpenLaw.row PySem.Challenge.rw_sumtold_k05_parts_reckoned).prog [21]) (H := Zl.hk) (ob := Zl.ob) (M := 1500) (loose := ["is_whole_number", "is_two_whole_numbers", "greatest_divisor", "pair", "is_pair", "part", "is_part", "part_plus", "part_less", "part_over", "halvings", "_law_cell_at", "_law_begin", "_law_draw", "_law_far", "_law_part", "_law_whole", "_law_right", "_law_halvings"]) (d := HandSHeadRun.topDef (OpenLaw.row PySem.Challenge.rw_sumtold_k05_parts_reckoned).prog 21) (kwd := []) Zl.ob_eq
    (by kernel_rfl) (fun s => by kernel_rfl) Zl.run (by kernel_rfl) (by kernel_rfl) (by kernel_rfl) (by rfl) (by first | assumption | decide +kernel) (by decide +kernel) ⟨rfl, rfl, rfl, rfl, rfl, by decide +kernel⟩ ?hw ?hc
  case hw => w_witness2
  case hc =>
    refine L2.walk_ofE (l := PySem.Challenge.rw_sumtold_k05_parts_reckoned) (n := 63) (k := 5) (x := "_law_script") (CX := L2.CX0) rfl (by decide) (by kernel_rfl) ⟨rfl, by decide, by decide⟩ ?F (fun _ _ _ _ z => z)
    intro w mg fa h Y G hmg0
    obtain ⟨K, KX, c⟩ := Y
    have hmg : mg ("law" : PySem.Str) = some (.ref fa) := by
      have e : (HandSHeadRun.topDef (OpenLaw.row PySem.Challenge.rw_sumtold_k05_parts_reckoned).prog 21).name = ("law" : PySem.Str) := by kernel_rfl
      rw [← e]
      exact hmg0
    obtain ⟨fd, hb, hF⟩ := Zl.facts (P := (PySem.Challenge.rw_sumtold_k05_parts_reckoned).prog) (w := w) KX G hmg c
    exact ⟨K, fd, Zl.spLaw K, KX, hb, fun H a ns hl _ hS => ⟨a, ns, rfl, hS, hl, fun _ => rfl⟩, hF⟩
