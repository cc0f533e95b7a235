import PyProof.Rows.All
import Wide.All
import OpenK.AllK
import Wide.FinOn
import KE.KStateDown
import Lean
import HandS.ForMost
import HandS.Flow
import HandS.Wide
import HandS.WideBits
import HandS.IsInst
import HandS.Style
import KE.BitLaws
import HandS.TupAny
import HandS.CallLocal
import HandS.Defaults
import HandS.Head0
import HandS.Head1
import HandS.Head2
import HandS.HeadEnd
import HandS.HeadHook1
import HandS.HeadHook2
import HandS.AnyAll
import HandS.GenList
import HandS.HeadHook4
import HandS.HeadWalk
import HandS.Conv
import PyProof.ListStr
import PyProof.TupleOfGen
import HandS.Zip
import HandS.TupMul
import PyProof.P3Eq
import PyProof.StrOps2
import HandS.NoneIn
import HandS.SetBool
import HandS.SetKeys
import HandS.TupSets
import HandS.Steps
import HandS.Strs
import HandS.DictComp
import HandS.More
import HandS.Exc
import HandS.ExcOwn
import HandS.WordsExc
import HandS.ExcIs
import HandS.TryOnly
import HandS.Deep
import HandS.DictTup
import PySem.Challenge.RW_sumtold_k23_what_are_no_books
set_option Elab.async false
set_option linter.all false
set_option maxRecDepth 100000
set_option maxHeartbeats 4000000
set_option pp.deepTerms false
set_option pp.maxSteps 400
set_option Elab.async false
set_option linter.all false
set_option maxRecDepth 100000
set_option maxHeartbeats 2000000
namespace Zk
open PySem PySem.Spec PyProof.Rows L2
/-! ## a def by its promise -/
abbrev FnP (K : PySem.W.Frag) (x : Str) (st : Stmt) (f : Addr) (fd : FuncData) : Prop := FunD K x x (defArgs st) (defBody st) (defScope st) [] [] f fd
def Has (P : Program) (w : World) (K : PySem.W.Frag) (mg : Str → Option Value) (base : Heap) (k : Nat) (x : Str) (ps : List Str) (sp : Sp) : Prop :=
  ∃ f fd, FnOk P w K mg base CX0 k f fd ps sp ∧ PySem.W.keepIn K (.ref f) = true ∧ Binds K fd ps [] ∧ mg x = some (.ref f)
theorem pe_callH {X : Cx} {k : Nat} {x : Str} {ps : List Str} {sp : Sp} {e : Expr} {es : List Expr} {t : TA} {p pos : Pos} (h : Has X.prog X.w X.K X.mg X.base k x ps sp) (hr : Room k X.A) (hg : Gl X x) (ha : PA X (e :: es) t)
    (hdb : (x == ("__debug__" : Str)) = false := by decide) (he : starEach (e :: es) X.env = (false, eval e X.env) :: starEach es X.env := by rfl) (hpl : (backTo pos (starEach es X.env)).any (·.1) = false := by rfl) :
    PE X (.Call (.Name x p) (e :: es) [] pos) (tCall sp [] E0 t) := by
  obtain ⟨f, fd, F, hk, hb, hm⟩ := h
  exact pe_call F hr hg hm hk hb .nil pass0 ha hdb he hpl
/-! ## operators for numbers of some size -/
def CMulA (i j : Int) : Prop := CMul i j ∨ CMulW i j
def CDivA (_ j : Int) : Prop := j ≠ 0 ∧ j.natAbs.log2 < 9000
section
variable {X : Cx}
theorem op_mulA : OpR X (binaryOp .Mult) (rI CMulA fun i j => .int (i * j)) := opI fun _ _ _ _ _ _ _ hc q => mul_int q (hc.elim (fun h => h.ok) (fun h => h.ok))
theorem op_fdivA : OpR X (binaryOp .FloorDiv) (rI CDivA fun i j => .int (i.fdiv j)) := opI fun _ _ _ _ _ _ _ hc q => floordiv_int hc.1 q (.inl (PyProof.noPylong_of_log2 hc.2))
theorem op_shlA : OpR X (binaryOp .LShift) (rI CShl fun i j => .int (i * 2 ^ j.toNat)) := op_shlW
theorem op_shrA : OpR X (binaryOp .RShift) (rI (fun _ j => 0 ≤ j) fun i j => .int (i / 2 ^ j.toNat)) := op_shr
end
theorem divA {i j : Int} {n : Nat} (h0 : j ≠ 0) (h : j.natAbs < 2 ^ n) (hn : 0 < n) (h9 : n ≤ 9000) : CDivA i j := ⟨h0, Nat.lt_of_lt_of_le (PySem.Flt.log2_lt_of hn h) h9⟩
theorem mulA {i j : Int} {a b : Nat} (ha : i.natAbs < 2 ^ a) (hb : j.natAbs < 2 ^ b) (h0 : 0 < a) (h1 : 0 < b) (h : a + b ≤ 1000000) : CMulA i j := .inr (wide_mul ha hb h0 h1 h)
theorem mulL {i j : Int} (h : -(2 ^ 64) < i ∧ i < 2 ^ 64) : CMulA i j := .inl (.inl h)
theorem mulR {i j : Int} (h : -(2 ^ 64) < j ∧ j < 2 ^ 64) : CMulA i j := .inl (.inr h)
/-! ## rules with the written part named -/
def rLenK (K : PySem.W.Frag) : List V → Hp → VK → Prop := fun xs H Q => ∃ x n, xs = [x] ∧ LenV K x H n ∧ Q (.int n) H
def rListK (K : PySem.W.Frag) : List V → Hp → VK → Prop := fun xs H Q => ∃ p ys, xs = [.ref p] ∧ (SqL K H p ys ∨ SqT K H p ys) ∧ ∀ l, H l = none → Q (.ref l) (upd H l (.lst ys))
def rTupleK (K : PySem.W.Frag) : List V → Hp → VK → Prop := fun xs H Q => ∃ p ys, xs = [.ref p] ∧ ((SqL K H p ys ∧ ∀ l, H l = none → Q (.ref l) (upd H l (.tup ys))) ∨ (SqT K H p ys ∧ Q (.ref p) H))
def rAbs : List V → Hp → VK → Prop := fun xs H Q => ∃ i, xs = [.int i] ∧ Q (.int (if i < 0 then -i else i)) H
def rInt1 : List V → Hp → VK → Prop := fun xs H Q => (∃ i, xs = [.int i] ∧ Q (.int i) H) ∨ ∃ k, xs = [.bl k] ∧ Q (.int (if k then 1 else 0)) H
def rMin2 : List V → Hp → VK → Prop := fun xs H Q => ∃ i j, xs = [.int i, .int j] ∧ Q (.int (if j < i then j else i)) H
def rMax2 : List V → Hp → VK → Prop := fun xs H Q => ∃ i j, xs = [.int i, .int j] ∧ Q (.int (if j > i then j else i)) H
section
variable {X : Cx}
theorem call_min2E (hc : X.calm = true) : CallR X (.builtin "min") rMin2 := call_min2 hc
theorem call_max2E (hc : X.calm = true) : CallR X (.builtin "max") rMax2 := call_max2 hc
theorem op_catE (K : PySem.W.Frag) (e : X.K = K := by rfl) : OpR X (binaryOp .Add) (rCatA K) := by rw [← e]; exact op_catA
theorem sl_tupE (K : PySem.W.Frag) (e : X.K = K := by rfl) : SlR X (rSlA K) := by rw [← e]; exact sl_tupA
theorem call_absE : CallR X (.builtin "abs") rAbs := call_abs
theorem call_intE : CallR X (.type "int") rInt1 := call_int1
theorem call_isiE (K : PySem.W.Frag) (e : X.K = K := by rfl) : CallR X (.builtin "isinstance") (rIsi K) := by rw [← e]; exact call_isi
theorem call_lenE (K : PySem.W.Frag) (e : X.K = K := by rfl) : CallR X (.builtin "len") (rLenK K) := by rw [← e]; exact call_len
theorem call_listE (K : PySem.W.Frag) (e : X.K = K := by rfl) : CallR X (.type "list") (rListK K) := by rw [← e]; exact call_list_of
theorem call_tupleE (K : PySem.W.Frag) (e : X.K = K := by rfl) : CallR X (.type "tuple") (rTupleK K) := by rw [← e]; exact call_tuple_of
theorem ix_listE (K : PySem.W.Frag) (e : X.K = K := by rfl) : IxR X (rIxL K) := by rw [← e]; exact ix_list
theorem ix_tupE (K : PySem.W.Frag) (e : X.K = K := by rfl) : IxR X (rIxT K) := by rw [← e]; exact ix_tup
theorem sl_listE (K : PySem.W.Frag) (e : X.K = K := by rfl) : SlR X (rSlL K) := by rw [← e]; exact sl_list
theorem op_inE (K : PySem.W.Frag) (e : X.K = K := by rfl) : OpR X (compareOp .In) (rIn K false) := by rw [← e]; exact op_in_seq
theorem op_notInE (K : PySem.W.Frag) (e : X.K = K := by rfl) : OpR X (compareOp .NotIn) (rIn K true) := by rw [← e]; exact op_notIn_seq
theorem op_eqDE (K : PySem.W.Frag) (hu : X.A.units + 64 < cLine) (e : X.K = K := by rfl) : OpR X (compareOp .Eq) (rEqD K) := by rw [← e]; exact op_eqD hu
theorem op_neDE (K : PySem.W.Frag) (hu : X.A.units + 64 < cLine) (e : X.K = K := by rfl) : OpR X (compareOp .NotEq) (rNeD K) := by rw [← e]; exact op_neD hu
theorem pi_listE (K : PySem.W.Frag) {tg l : Expr} {tl : TE} (hl : PE X l tl) (e : X.K = K := by rfl) : PI X tg l (iList K tl) := by rw [← e]; exact pi_list hl
theorem pi_tupE (K : PySem.W.Frag) {tg l : Expr} {tl : TE} (hl : PE X l tl) (e : X.K = K := by rfl) : PI X tg l (iTup K tl) := by rw [← e]; exact pi_tup hl
theorem pe_orTE (K : PySem.W.Frag) {a b : Expr} {ta tb : TE} {rest : List Expr} {pos : Pos} (ha : PE X a ta) (hb : PE X (.BoolOp .Or (b :: rest) pos) tb) (e : X.K = K := by rfl) : PE X (.BoolOp .Or (a :: b :: rest) pos) (tOrT K ta tb) := by rw [← e]; exact pe_orT ha hb
end
/-! ## the reading, step by step -/
def NewO (o : List V → HO) (xs : List V) (H : Hp) (Q : VK) : Prop := xs.length ≤ sizeLine ∧ ∀ p, H p = none → Q (.ref p) (upd H p (o xs))
section
variable {σ : L2.St} {H : Hp} {Q : VK} {v x y : V} {i : Nat} {ta tb te : TE} {D : Ends} {t u : TS} {c c' : TT} {a b : Int} {K : PySem.W.Frag} {p : Addr} {xs ys : List V}
theorem z_var (h : σ[i]? = some (some v)) (q : Q v H) : tVar i σ H Q := ⟨v, h, q⟩
theorem z_c (q : Q v H) : tC v σ H Q := q
theorem z_op {r : R2} (q : ta σ H fun x H1 => tb σ H1 fun y H2 => r x y H2 Q) : tOp r ta tb σ H Q := q
theorem z_un {r : V → Hp → VK → Prop} (q : ta σ H fun x H1 => r x H1 Q) : tUn r ta σ H Q := q
theorem z_I0 {g : Int → Int → V} (q : Q (g a b) H) : rI0 g (.int a) (.int b) H Q := ⟨a, b, rfl, rfl, q⟩
theorem z_I {C : Int → Int → Prop} {g : Int → Int → V} (hc : C a b) (q : Q (g a b) H) : rI C g (.int a) (.int b) H Q := ⟨a, b, rfl, rfl, hc, q⟩
theorem z_U {g : Int → V} (q : Q (g a) H) : rU g (.int a) H Q := ⟨a, rfl, q⟩
theorem z_eqI (q : Q (.bl (decide (a = b))) H) : rEq (.int a) (.int b) H Q := ⟨rfl, by
  have e : decide (V.int a = V.int b) = decide (a = b) := by
    by_cases h : a = b
    · rw [h, decide_eq_true rfl, decide_eq_true rfl]
    · rw [decide_eq_false h, decide_eq_false (fun z => h (V.int.inj z))]
  rw [e]
  exact q⟩
theorem z_neI (q : Q (.bl (!decide (a = b))) H) : rNe (.int a) (.int b) H Q := ⟨rfl, by
  have e : decide (V.int a = V.int b) = decide (a = b) := by
    by_cases h : a = b
    · rw [h, decide_eq_true rfl, decide_eq_true rfl]
    · rw [decide_eq_false h, decide_eq_false (fun z => h (V.int.inj z))]
  rw [e]
  exact q⟩
theorem z_eqB {k l : Bool} (q : Q (.bl (decide (k = l))) H) : rEq (.bl k) (.bl l) H Q := ⟨rfl, by
  have e : decide (V.bl k = V.bl l) = decide (k = l) := by
    cases k <;> cases l <;> rfl
  rw [e]
  exact q⟩
theorem z_neB {k l : Bool} (q : Q (.bl (!decide (k = l))) H) : rNe (.bl k) (.bl l) H Q := ⟨rfl, by
  have e : decide (V.bl k = V.bl l) = decide (k = l) := by
    cases k <;> cases l <;> rfl
  rw [e]
  exact q⟩
theorem z_isB {k l : Bool} (q : Q (.bl (decide (k = l))) H) : rIsB (.bl k) (.bl l) H Q := ⟨k, l, rfl, rfl, q⟩
theorem z_notB {k l : Bool} (q : Q (.bl (!decide (k = l))) H) : rNotB (.bl k) (.bl l) H Q := ⟨k, l, rfl, rfl, q⟩
theorem z_ixL (h : SqL K H p xs) (e : atI xs a = some v) (q : Q v H) : rIxL K (.ref p) (.int a) H Q := ⟨p, xs, a, v, rfl, rfl, h, e, q⟩
theorem z_ixT (h : SqT K H p xs) (e : atI xs a = some v) (q : Q v H) : rIxT K (.ref p) (.int a) H Q := ⟨p, xs, a, v, rfl, rfl, h, e, q⟩
theorem z_nil {Q : List V → Hp → Prop} (q : Q [] H) : tNil σ H Q := q
theorem z_cons {tr : TA} {Q : List V → Hp → Prop} (q : ta σ H fun x H1 => tr σ H1 fun xs H2 => Q (x :: xs) H2) : tCons ta tr σ H Q := q
theorem z_tup {tr : TA} (q : tr σ H fun xs H1 => NewO HO.tup xs H1 Q) : tTup tr σ H Q := q
theorem z_lst {tr : TA} (q : tr σ H fun xs H1 => NewO HO.lst xs H1 Q) : tLst tr σ H Q := q
theorem z_call {sp : Sp} {dvs : List V} {E : XK} {tr : TA} (q : tr σ H fun vs H1 => sp (vs ++ dvs) H1 Q E) : tCall sp dvs E tr σ H Q := q
theorem z_cb {r : List V → Hp → VK → Prop} {tr : TA} (q : tr σ H fun vs H1 => r vs H1 Q) : tCB r tr σ H Q := q
theorem z_andV (q : ta σ H fun x H1 => ∃ c, x = .bl c ∧ if c = true then tb σ H1 Q else Q (.bl false) H1) : tAndV ta tb σ H Q := q
theorem z_orV (q : ta σ H fun x H1 => ∃ c, x = .bl c ∧ if c = true then Q (.bl true) H1 else tb σ H1 Q) : tOrV ta tb σ H Q := q
theorem z_notV (q : ta σ H fun x H1 => ∃ c, x = .bl c ∧ Q (.bl (!c)) H1) : tNotV ta σ H Q := q
theorem z_orTi (q : if a = 0 then tb σ H Q else Q (.int a) H) : (∃ k, TruV K (.int a) H k ∧ if k = true then Q (.int a) H else tb σ H Q) := by
  refine ⟨a != 0, rfl, ?_⟩
  by_cases h : a = 0
  · rw [if_pos h] at q
    rw [h]
    exact iteF q
  · rw [if_neg h] at q
    have e : (a != 0) = true := by simpa using h
    rw [e]
    exact iteT q
/-- x or y: what stands behind is shown once -/
theorem z_orCut (Pv : Int → Hp → Prop) (ha : a ≠ 0 → Pv a H) (hQ : ∀ m H', Pv m H' → Q (.int m) H') (hb : a = 0 → ∀ Q' : VK, (∀ m H', Pv m H' → Q' (.int m) H') → tb σ H Q') : (∃ k, TruV K (.int a) H k ∧ if k = true then Q (.int a) H else tb σ H Q) := by
  refine z_orTi ?_
  by_cases h : a = 0
  · rw [if_pos h]
    exact hb h Q hQ
  · rw [if_neg h]
    exact hQ _ _ (ha h)
theorem z_orT (q : ta σ H fun x H1 => ∃ k, TruV K x H1 k ∧ if k = true then Q x H1 else tb σ H1 Q) : tOrT K ta tb σ H Q := q
theorem z_ebl {k : Bool} {P : Bool → Prop} (q : P k) : ∃ c, V.bl k = V.bl c ∧ P c := ⟨k, rfl, q⟩
theorem z_eint {P : Int → Prop} (q : P a) : ∃ c, V.int a = V.int c ∧ P c := ⟨a, rfl, q⟩
theorem z_test {Q : Bool → Hp → Prop} (q : te σ H fun x H' => ∃ k, x = .bl k ∧ Q k H') : tTest te σ H Q := q
theorem z_B {Q : Bool → Hp → Prop} (q : te σ H fun x H' => ∃ k, x = .bl k ∧ Q k H') : tB te σ H Q := q
theorem z_and {Q : Bool → Hp → Prop} (q : c σ H fun k H1 => if k = true then c' σ H1 Q else Q false H1) : tAnd c c' σ H Q := q
theorem z_or {Q : Bool → Hp → Prop} (q : c σ H fun k H1 => if k = true then Q true H1 else c' σ H1 Q) : tOr c c' σ H Q := q
theorem z_not {Q : Bool → Hp → Prop} (q : c σ H fun k H1 => Q (!k) H1) : tNot c σ H Q := q
theorem z_yes {Q : Bool → Hp → Prop} (q : Q true H) : tYes σ H Q := q
theorem z_seq (q : t { D with nx := u D } σ H) : tSeq t u D σ H := q
theorem z_next (q : D.nx σ H) : tNext D σ H := q
theorem z_asg {g : TG} (q : te σ H fun x H1 => g x σ H1 D.nx) : tAsg te g D σ H := q
theorem z_name {Q : L2.St → Hp → Prop} (q : Q (σ.set i (some v)) H) : gName i v σ H Q := q
theorem z_ret (q : te σ H D.rt) : tRet te D σ H := q
theorem z_retN (q : D.rt .non H) : tRetN D σ H := q
theorem z_drop (q : te σ H fun _ H1 => D.nx σ H1) : tDrop te D σ H := q
theorem z_if (q : c σ H fun k H1 => if k = true then t D σ H1 else u D σ H1) : tIfS c t u D σ H := q
theorem z_par {j : Nat} {tr : TA} (q : tr σ H fun vs H1 => ∃ v w, vs = [v, w] ∧ D.nx ((σ.set i (some v)).set j (some w)) H1) : tPar i j tr D σ H := q
theorem z_par2 {w : V} {P : V → V → Prop} (q : P v w) : ∃ v' w', [v, w] = [v', w'] ∧ P v' w' := ⟨v, w, rfl, q⟩
theorem z_gTup {n : Nat} {g : TGs} {Q : L2.St → Hp → Prop} (h : SqT K H p xs) (hl : xs.length = n) (q : g xs σ H Q) : gTup K n g (.ref p) σ H Q := ⟨p, xs, rfl, h, hl, q⟩
theorem z_gCons {g : TG} {gs : TGs} {Q : L2.St → Hp → Prop} (q : g v σ H fun σ' H' => gs xs σ' H' Q) : gCons g gs (v :: xs) σ H Q := ⟨v, xs, rfl, q⟩
theorem z_gNil {Q : L2.St → Hp → Prop} (q : Q σ H) : gNil [] σ H Q := ⟨rfl, q⟩
theorem z_gSub {to ti : TE} {ts : TSet} {Q : L2.St → Hp → Prop} (q : to σ H fun o H1 => ti σ H1 fun i H2 => ts o i v H2 fun H3 => Q σ H3) : gSub to ti ts v σ H Q := q
theorem z_setL {j : Nat} {Q : Hp → Prop} (h : H p = some (.lst xs)) (e : ixN xs.length a = some j) (q : Q (upd H p (.lst (xs.set j v)))) : rSetL (.ref p) (.int a) v H Q := ⟨p, xs, a, j, rfl, rfl, h, e, q⟩
theorem z_isi {n s : String} {k : Bool} (hx : TyX K H x (.type n)) (hk : kitB n s = some k) (q : Q (.bl k) H) : rIsi K [x, .ty s] H Q := ⟨x, .ty s, .type n, .type s, k, rfl, .ty s, hx, kit_ty hk, q⟩
theorem z_new {o : List V → HO} (hl : xs.length ≤ 1000) (q : ∀ p H', H p = none → Same H H' → H' p = some (o xs) → Q (.ref p) H') : NewO o xs H Q :=
  ⟨Nat.le_of_lt (small1000 hl), fun p hp => q p _ hp (fun b u e => by rw [upd_ne (ne_of_none e hp)]; exact e) upd_same⟩
theorem z_lenT (h : H p = some (.tup xs)) (q : Q (.int xs.length) H) : rLenK K [.ref p] H Q := ⟨_, xs.length, rfl, .inr ⟨xs, SqT.of h, rfl⟩, q⟩
theorem z_lenL (h : SqL K H p xs) (q : Q (.int xs.length) H) : rLenK K [.ref p] H Q := ⟨_, xs.length, rfl, .inl ⟨xs, h, rfl⟩, q⟩
theorem z_slL {lo hi : Option Int} (h : SqL K H p xs) (q : ∀ p' H', H p' = none → Same H H' → H' p' = some (.lst (cutV xs lo hi)) → Q (.ref p') H') : rSlL K (.ref p) lo hi H Q :=
  ⟨p, xs, rfl, h, fun p' hp => q p' _ hp (fun b u e => by rw [upd_ne (ne_of_none e hp)]; exact e) upd_same⟩
theorem z_cat {l l' : Addr} (h : H l = some (.lst xs)) (h' : H l' = some (.lst ys)) (hl : xs.length + ys.length ≤ 1000) (q : ∀ p' H', H p' = none → Same H H' → H' p' = some (.lst (xs ++ ys)) → Q (.ref p') H') : rCat (.ref l) (.ref l') H Q :=
  ⟨l, l', xs, ys, rfl, rfl, h, h', Nat.le_of_lt (small1000 hl), fun p' hp => q p' _ hp (fun b u e => by rw [upd_ne (ne_of_none e hp)]; exact e) upd_same⟩
theorem z_catT {l l' : Addr} (h : H l = some (.tup xs)) (h' : H l' = some (.tup ys)) (hl : xs.length + ys.length ≤ 1000) (q : ∀ p' H', Same H H' → H' p' = some (.tup (xs ++ ys)) → Q (.ref p') H') : rCatA K (.ref l) (.ref l') H Q :=
  ⟨l, l', xs, ys, rfl, rfl, SqT.of h, SqT.of h', Nat.le_of_lt (small1000 hl), fun e => q l' H (Same.refl H) (by rw [e]; exact h'), fun _ e => q l H (Same.refl H) (by rw [e, List.append_nil]; exact h), fun _ _ p' hp => q p' _ (fun b u e => by rw [upd_ne (ne_of_none e hp)]; exact e) upd_same⟩
theorem cutV_whole {xs : List V} {lo hi : Option Int} (h : HT.sIx xs.length 0 lo = 0 ∧ HT.sIx xs.length xs.length hi = xs.length) : cutV xs lo hi = xs := by
  unfold cutV
  rw [h.1, h.2]
  simp
theorem z_slT {lo hi : Option Int} (h : H p = some (.tup xs)) (q : ∀ p' H', Same H H' → H' p' = some (.tup (cutV xs lo hi)) → Q (.ref p') H') : rSlA K (.ref p) lo hi H Q :=
  ⟨p, xs, rfl, SqT.of h, fun e => q p H (Same.refl H) (by rw [cutV_whole e]; exact h), fun _ p' hp => q p' _ (fun b u e => by rw [upd_ne (ne_of_none e hp)]; exact e) upd_same⟩
theorem z_dnew (q : ∀ p H', H p = none → Same H H' → H' p = some (.dK []) → Q (.ref p) H') : tDNewK σ H Q := fun p hp => q p _ hp (fun b u e => by rw [upd_ne (ne_of_none e hp)]; exact e) upd_same
theorem z_listT (h : H p = some (.tup xs)) (q : ∀ p' H', H p' = none → Same H H' → H' p' = some (.lst xs) → Q (.ref p') H') : rListK K [.ref p] H Q := ⟨p, xs, rfl, .inr (SqT.of h), fun p' hp => q p' _ hp (fun b u e => by rw [upd_ne (ne_of_none e hp)]; exact e) upd_same⟩
theorem z_eqD {d e : PyData} {k : Bool} (h : Dp K H x d) (h' : Dp K H y e) (s : SeqAt.shaped d = true) (s' : SeqAt.shaped e = true) (hk : PyData.eqv d e = k) (q : Q (.bl k) H) : rEqD K x y H Q := ⟨d, e, h, h', s, s', by rw [hk]; exact q⟩
theorem z_neD {d e : PyData} {k : Bool} (h : Dp K H x d) (h' : Dp K H y e) (s : SeqAt.shaped d = true) (s' : SeqAt.shaped e = true) (hk : PyData.eqv d e = k) (q : Q (.bl (!k)) H) : rNeD K x y H Q := ⟨d, e, h, h', s, s', by rw [hk]; exact q⟩
theorem z_min2 {m n : Nat} (q : Q (.int ((min m n : Nat) : Int)) H) : rMin2 [.int (m : Int), .int (n : Int)] H Q := ⟨m, n, rfl, by
  have e : (if (n : Int) < (m : Int) then (n : Int) else (m : Int)) = ((min m n : Nat) : Int) := by split <;> omega
  rw [e]
  exact q⟩
theorem z_max2 {m n : Nat} (q : Q (.int ((max m n : Nat) : Int)) H) : rMax2 [.int (m : Int), .int (n : Int)] H Q := ⟨m, n, rfl, by
  have e : (if (n : Int) > (m : Int) then (n : Int) else (m : Int)) = ((max m n : Nat) : Int) := by split <;> omega
  rw [e]
  exact q⟩
theorem z_intB {k : Bool} (q : Q (.int (if k then 1 else 0)) H) : rInt1 [.bl k] H Q := .inr ⟨k, rfl, q⟩
theorem z_abs (q : Q (.int (a.natAbs : Int)) H) : rAbs [.int a] H Q := ⟨a, rfl, by
  have e : (if a < 0 then -a else a) = (a.natAbs : Int) := by split <;> omega
  rw [e]
  exact q⟩
theorem z_pow (h : CPow a b) (q : Q (.int (a ^ b.toNat)) H) : rI CPow (fun i j => .int (i ^ j.toNat)) (.int a) (.int b) H Q := ⟨a, b, rfl, rfl, h, q⟩
theorem z_modN (h : b ≠ 0) (q : Q (.int (a.fmod b)) H) : rI (fun _ j => j ≠ 0) (fun i j => .int (i.fmod j)) (.int a) (.int b) H Q := ⟨a, b, rfl, rfl, h, q⟩
theorem z_mulA (h : CMulA a b) (q : Q (.int (a * b)) H) : rI CMulA (fun i j => .int (i * j)) (.int a) (.int b) H Q := ⟨a, b, rfl, rfl, h, q⟩
theorem z_fdivA (h : CDivA a b) (q : Q (.int (a.fdiv b)) H) : rI CDivA (fun i j => .int (i.fdiv j)) (.int a) (.int b) H Q := ⟨a, b, rfl, rfl, h, q⟩
theorem z_shlA (h : CShl a b) (q : Q (.int (a * 2 ^ b.toNat)) H) : rI CShl (fun i j => .int (i * 2 ^ j.toNat)) (.int a) (.int b) H Q := ⟨a, b, rfl, rfl, h, q⟩
theorem z_shrA (h : 0 ≤ b) (q : Q (.int (a / 2 ^ b.toNat)) H) : rI (fun _ j => 0 ≤ j) (fun i j => .int (i / 2 ^ j.toNat)) (.int a) (.int b) H Q := ⟨a, b, rfl, rfl, h, q⟩
theorem z_for {wi : TI} {g : TG} {tb : TS} (q : wi σ H fun J H1 => ∃ W : Nat → Nat → L2.St → Hp → Prop, (∃ m, W 0 m σ H1) ∧ ∀ i m σ H, W i m σ H →
  (J.stop i H ∧ D.nx σ H) ∨ (J.go i H ∧ ∃ N : L2.St → Hp → Prop, (∀ σ' H', N σ' H' → ∃ m', m' < m ∧ W (i + 1) m' σ' H') ∧ ∀ x H', J.yld i H x H' → g x σ H' fun σ2 H2 => tb { D with nx := N, ct := N, bk := D.nx } σ2 H2)) : tFor wi g tb D σ H := q
theorem z_rng1 {tr : TA} {R : It → Hp → Prop} (q : tr σ H fun vs H1 => ∃ j : Int, vs = [.int j] ∧ -(2 ^ 62) ≤ j ∧ j < 2 ^ 62 ∧ R (Itr 0 j.toNat) H1) : iRng1 tr σ H R := q
theorem z_iL {R : It → Hp → Prop} (q : te σ H fun x H1 => ∃ a, x = .ref a ∧ (∃ xs, SqL K H1 a xs) ∧ R (Itl K a) H1) : iList K te σ H R := q
theorem z_iT {R : It → Hp → Prop} (q : te σ H fun x H1 => ∃ a, x = .ref a ∧ (∃ xs, SqT K H1 a xs) ∧ R (Itt K a) H1) : iTup K te σ H R := q
theorem z_bm {T : String} {r : V → List V → Hp → VK → Prop} {to : TE} {tr : TA} (q : to σ H fun x H1 => tyV K T x H1 ∧ tr σ H1 fun xs H2 => r x xs H2 Q) : tBM K T r to tr σ H Q := q
theorem z_bits (q : te σ H fun x H1 => ∃ i, x = .int i ∧ Q (.int (Builtin.Int.intBits i : Nat)) H1) : tBits te σ H Q := q
theorem z_sl {r : V → Option Int → Option Int → Hp → VK → Prop} {tl th : TO} (q : te σ H fun x H1 => tl σ H1 fun l H2 => th σ H2 fun u H3 => r x l u H3 Q) : tSl r te tl th σ H Q := q
theorem z_noPart {Q : Option Int → Hp → Prop} (q : Q none H) : tNoPart σ H Q := q
theorem z_part {Q : Option Int → Hp → Prop} (q : te σ H fun x H1 => ∃ i, x = .int i ∧ Q (some i) H1) : tPart te σ H Q := q
theorem z_chain {r r' : R2} {tc : TE} (q : ta σ H fun x H1 => tb σ H1 fun y H2 => r x y H2 fun z H3 => ∃ k, z = .bl k ∧ (if k = true then tc σ H3 fun w' H4 => r' y w' H4 Q else Q (.bl false) H3)) : tChain r r' ta tb tc σ H Q := q
theorem z_itT {k : Bool} {A B : Prop} (e : k = true) (q : A) : if k = true then A else B := by rw [if_pos e]; exact q
theorem z_itF {k : Bool} {A B : Prop} (e : k = false) (q : B) : if k = true then A else B := by rw [e]; exact iteF q
/-- what stands behind is shown once -/
theorem cutT {σ : L2.St} {H : Hp} {t : TT} {Q : Bool → Hp → Prop} (Pv : Bool → Hp → Prop) (h : ∀ Q' : Bool → Hp → Prop, (∀ k H', Pv k H' → Q' k H') → t σ H Q') (hQ : ∀ k H', Pv k H' → Q k H') : t σ H Q := h Q hQ
theorem cutE {σ : L2.St} {H : Hp} {t : TE} {Q : VK} (Pv : V → Hp → Prop) (h : ∀ Q' : VK, (∀ k H', Pv k H' → Q' k H') → t σ H Q') (hQ : ∀ k H', Pv k H' → Q k H') : t σ H Q := h Q hQ
theorem cutSt {σ : L2.St} {H : Hp} {t : TS} {D : Ends} (Pv : L2.St → Hp → Prop) (h : ∀ D' : Ends, (∀ σ' H', Pv σ' H' → D'.nx σ' H') → D'.rt = D.rt → D'.bk = D.bk → D'.ct = D.ct → t D' σ H) (hQ : ∀ σ' H', Pv σ' H' → D.nx σ' H') : t D σ H := h D hQ rfl rfl rfl
theorem sz {n : Nat} (h : n ≤ 1000) : n ≤ sizeLine := Nat.le_of_lt (small1000 h)
theorem z_ite {P : Prop} {A B : Prop} [Decidable P] (h1 : P → A) (h2 : ¬ P → B) : if decide P = true then A else B := by
  by_cases h : P
  · rw [decide_eq_true h]
    exact iteT (h1 h)
  · rw [decide_eq_false h]
    exact iteF (h2 h)
theorem z_nite {P : Prop} {A B : Prop} [Decidable P] (h1 : ¬ P → A) (h2 : P → B) : if (!decide P) = true then A else B := by
  by_cases h : P
  · rw [decide_eq_true h]
    exact iteF (h2 h)
  · rw [decide_eq_false h]
    exact iteT (h1 h)
end
/-! ## the source of draws: a list of three ints; all else stays -/
def Src (H : Hp) (s : Addr) : Prop := ∃ a b c : Int, H s = some (.lst [.int a, .int b, .int c])
structure Dr (s : Addr) (H H' : Hp) : Prop where
  keep : ∀ a o, a ≠ s → H a = some o → H' a = some o
  src : Src H' s
  src0 : Src H s
theorem Dr.trans {s : Addr} {H H1 H2 : Hp} (a : Dr s H H1) (b : Dr s H1 H2) : Dr s H H2 := ⟨fun x o n h => b.keep x o n (a.keep x o n h), b.src, a.src0⟩
theorem Dr.refl {s : Addr} {H : Hp} (h : Src H s) : Dr s H H := ⟨fun _ _ _ h => h, h, h⟩
theorem Src.same {s : Addr} {H H' : Hp} (h : Src H s) (e : Same H H') : Src H' s := by
  obtain ⟨a, b, c, h⟩ := h
  exact ⟨a, b, c, e _ _ h⟩
theorem Src.ne {s p : Addr} {H : Hp} (h : Src H s) (n : H p = none) : p ≠ s := by
  obtain ⟨a, b, c, h⟩ := h
  intro z
  rw [z, h] at n
  cases n
theorem Dr.of_same {s : Addr} {H H' : Hp} (h : Src H s) (e : Same H H') : Dr s H H' := ⟨fun a o _ h => e a o h, h.same e, h⟩
theorem Dr.tup {s a : Addr} {H H' : Hp} {xs : List V} (d : Dr s H H') (ht : H a = some (.tup xs)) : H' a = some (.tup xs) := by
  obtain ⟨x, y, z, h⟩ := d.src0
  exact d.keep a _ (ne_of ht h (by intro q; cases q)) ht
theorem Dr.frz {s a : Addr} {H H' : Hp} {o : Obj} {u : HO} (d : Dr s H H') (ht : H a = some (.frz o u)) : H' a = some (.frz o u) := by
  obtain ⟨x, y, z, h⟩ := d.src0
  exact d.keep a _ (ne_of ht h (by intro q; cases q)) ht
theorem same_get {H H' : Hp} {a : Addr} {o : HO} (e : Same H H') (h : H a = some o) : H' a = some o := e a o h
theorem dpPair {K : PySem.W.Frag} {H : Hp} {p : Addr} {x y : Int} (h : H p = some (.tup [.int x, .int y])) : Dp K H (.ref p) (.tuple [.int x, .int y]) := .tup (SqT.of h) (.cons (.int x) (.cons (.int y) .nil))
theorem shPair (x y : Int) : SeqAt.shaped (.tuple [.int x, .int y]) = true := rfl
theorem eqvPair (x y x' y' : Int) : PyData.eqv (.tuple [.int x, .int y]) (.tuple [.int x', .int y']) = (decide (x = x') && decide (y = y')) := by
  by_cases h : x = x' <;> by_cases h' : y = y' <;> simp [PyData.eqv, PyData.eqvAll, h, h']
theorem eqvPair_of {x y x' y' : Int} (h : x = x') (h' : y = y') : PyData.eqv (.tuple [.int x, .int y]) (.tuple [.int x', .int y']) = true := by
  rw [eqvPair, decide_eq_true h, decide_eq_true h']
  rfl
theorem bool_bl {k l : Bool} (e : k = l) {Q : VK} {H : Hp} (q : Q (.bl l) H) : Q (.bl k) H := by rw [e]; exact q
end Zk
set_option Elab.async false
set_option linter.all false
set_option maxRecDepth 100000
set_option maxHeartbeats 2000000
namespace Zk
open PySem PySem.Spec PyProof.Rows L2
/-! ## pairs: the mathematics -/
def dvs (n d : Int) : Int := if d < 0 then -(Nat.gcd n.natAbs d.natAbs : Int) else (Nat.gcd n.natAbs d.natAbs : Int)
def pn (n d : Int) : Int := n.fdiv (dvs n d)
def pd (n d : Int) : Int := d.fdiv (dvs n d)
theorem gcd_pos {n d : Int} (h : d ≠ 0) : 0 < Nat.gcd n.natAbs d.natAbs := Nat.gcd_pos_of_pos_right _ (by omega)
theorem dvs_ne {n d : Int} (h : d ≠ 0) : dvs n d ≠ 0 := by
  have := gcd_pos (n := n) h
  unfold dvs
  split <;> omega
theorem dvs_abs (n d : Int) : (dvs n d).natAbs = Nat.gcd n.natAbs d.natAbs := by
  unfold dvs
  split <;> omega
theorem dvs_l (n d : Int) : dvs n d ∣ n := by
  rw [← Int.natAbs_dvd_natAbs, dvs_abs]
  exact Nat.gcd_dvd_left _ _
theorem dvs_r (n d : Int) : dvs n d ∣ d := by
  rw [← Int.natAbs_dvd_natAbs, dvs_abs]
  exact Nat.gcd_dvd_right _ _
theorem pn_mul (n d : Int) : pn n d * dvs n d = n := Int.fdiv_mul_cancel (dvs_l n d)
theorem pd_mul (n d : Int) : pd n d * dvs n d = d := Int.fdiv_mul_cancel (dvs_r n d)
theorem pn_abs (n d : Int) : (pn n d).natAbs * Nat.gcd n.natAbs d.natAbs = n.natAbs := by
  have h := congrArg Int.natAbs (pn_mul n d)
  rw [Int.natAbs_mul, dvs_abs] at h
  exact h
theorem pd_abs (n d : Int) : (pd n d).natAbs * Nat.gcd n.natAbs d.natAbs = d.natAbs := by
  have h := congrArg Int.natAbs (pd_mul n d)
  rw [Int.natAbs_mul, dvs_abs] at h
  exact h
theorem pd_pos {n d : Int} (h : d ≠ 0) : 0 < pd n d := by
  have e := pd_mul n d
  have g := gcd_pos (n := n) h
  unfold dvs at e
  by_cases hd : d < 0
  · rw [if_pos hd] at e
    rcases (show 0 < pd n d ∨ pd n d ≤ 0 by omega) with q | q
    · exact q
    · exfalso
      have : 0 ≤ pd n d * -(Nat.gcd n.natAbs d.natAbs : Int) := Int.mul_nonneg_of_nonpos_of_nonpos q (by omega)
      omega
  · rw [if_neg hd] at e
    rcases (show 0 < pd n d ∨ pd n d ≤ 0 by omega) with q | q
    · exact q
    · exfalso
      have : pd n d * (Nat.gcd n.natAbs d.natAbs : Int) ≤ 0 := Int.mul_nonpos_of_nonpos_of_nonneg q (by omega)
      omega
theorem pr_cross (n d : Int) : pn n d * d = n * pd n d := by
  have e1 := pn_mul n d
  have e2 := pd_mul n d
  calc pn n d * d = pn n d * (pd n d * dvs n d) := by rw [e2]
    _ = (pn n d * dvs n d) * pd n d := by rw [Int.mul_comm (pd n d), Int.mul_assoc]
    _ = n * pd n d := by rw [e1]
theorem pr_gcd {n d : Int} (h : d ≠ 0) : Nat.gcd (pn n d).natAbs (pd n d).natAbs = 1 := by
  have g := gcd_pos (n := n) h
  have e := Nat.gcd_mul_right (pn n d).natAbs (Nat.gcd n.natAbs d.natAbs) (pd n d).natAbs
  rw [pn_abs, pd_abs] at e
  exact Nat.eq_of_mul_eq_mul_right g (by omega)
theorem pn_le {n d : Int} (h : d ≠ 0) : (pn n d).natAbs ≤ n.natAbs := by
  have g := gcd_pos (n := n) h
  have e := pn_abs n d
  have : (pn n d).natAbs * 1 ≤ (pn n d).natAbs * Nat.gcd n.natAbs d.natAbs := Nat.mul_le_mul_left _ g
  omega
theorem pd_le {n d : Int} (h : d ≠ 0) : (pd n d).natAbs ≤ d.natAbs := by
  have g := gcd_pos (n := n) h
  have e := pd_abs n d
  have : (pd n d).natAbs * 1 ≤ (pd n d).natAbs * Nat.gcd n.natAbs d.natAbs := Nat.mul_le_mul_left _ g
  omega
/-- a pair in lowest terms -/
structure Low (x y : Int) : Prop where
  pos : 0 < y
  one : Nat.gcd x.natAbs y.natAbs = 1
theorem low_pair {n d : Int} (h : d ≠ 0) : Low (pn n d) (pd n d) := ⟨pd_pos h, pr_gcd h⟩
theorem low_eq {x y x' y' : Int} (h : Low x y) (h' : Low x' y') (e : x * y' = x' * y) : x = x' ∧ y = y' := by
  have ea := congrArg Int.natAbs e
  rw [Int.natAbs_mul, Int.natAbs_mul] at ea
  have d1 : y.natAbs ∣ y'.natAbs := by
    refine Nat.Coprime.dvd_of_dvd_mul_left (k := y.natAbs) (m := x.natAbs) (n := y'.natAbs) ?_ ?_
    · rw [Nat.Coprime, Nat.gcd_comm]
      exact h.one
    · exact ⟨x'.natAbs, by rw [ea, Nat.mul_comm]⟩
  have d2 : y'.natAbs ∣ y.natAbs := by
    refine Nat.Coprime.dvd_of_dvd_mul_left (k := y'.natAbs) (m := x'.natAbs) (n := y.natAbs) ?_ ?_
    · rw [Nat.Coprime, Nat.gcd_comm]
      exact h'.one
    · exact ⟨x.natAbs, by rw [← ea, Nat.mul_comm]⟩
  have ey := Nat.dvd_antisymm d1 d2
  have p1 := h.pos
  have p2 := h'.pos
  have ey2 : y = y' := by omega
  refine ⟨?_, ey2⟩
  rw [← ey2] at e
  exact Int.eq_of_mul_eq_mul_right (by omega) e
/-- a pair is told by its worth -/
theorem pair_eq {n d n' d' : Int} (h : d ≠ 0) (h' : d' ≠ 0) (e : n * d' = n' * d) : pn n d = pn n' d' ∧ pd n d = pd n' d' := by
  refine low_eq (low_pair h) (low_pair h') ?_
  have c1 := pr_cross n d
  have c2 := pr_cross n' d'
  have e2 : (pn n d * pd n' d') * (d * d') = (pn n' d' * pd n d) * (d * d') := by
    calc (pn n d * pd n' d') * (d * d') = (pn n d * d) * (d' * pd n' d') := by
          rw [Int.mul_comm d' (pd n' d'), Int.mul_assoc, Int.mul_assoc, ← Int.mul_assoc (pd n' d') d d', Int.mul_comm (pd n' d') d, Int.mul_assoc]
      _ = (n * pd n d) * (d' * pd n' d') := by rw [c1]
      _ = (n * d') * (pd n d * pd n' d') := by
          rw [Int.mul_assoc, Int.mul_assoc, ← Int.mul_assoc (pd n d) d', Int.mul_comm (pd n d) d', Int.mul_assoc]
      _ = (n' * d) * (pd n d * pd n' d') := by rw [e]
      _ = (n' * pd n' d') * (d * pd n d) := by
          rw [Int.mul_assoc, Int.mul_assoc, Int.mul_comm (pd n d) (pd n' d'), ← Int.mul_assoc d, Int.mul_comm d (pd n' d'), Int.mul_assoc]
      _ = (pn n' d' * d') * (d * pd n d) := by rw [c2]
      _ = (pn n' d' * pd n d) * (d * d') := by
          rw [Int.mul_assoc, Int.mul_assoc, Int.mul_comm d (pd n d), ← Int.mul_assoc d', Int.mul_comm d' (pd n d), Int.mul_assoc, Int.mul_comm d' d]
  exact Int.eq_of_mul_eq_mul_right (by
    intro z
    rcases Int.mul_eq_zero.mp z with q | q
    · exact h q
    · exact h' q) e2
/-- of a pair in lowest terms pair tells itself -/
theorem pair_self {x y : Int} (h : Low x y) : pn x y = x ∧ pd x y = y :=
  low_eq (low_pair (by have := h.pos; omega)) h (by rw [pr_cross])
theorem lt_pow {a b n : Nat} (h : a ≤ b) (hb : b < 2 ^ n) : a < 2 ^ n := Nat.lt_of_le_of_lt h hb
theorem pw_mono {a m n : Nat} (h : a < 2 ^ m) (hn : m ≤ n) : a < 2 ^ n := Nat.lt_of_lt_of_le h (Nat.pow_le_pow_right (by decide) hn)
theorem pw_mul {a b : Int} {m n : Nat} (ha : a.natAbs < 2 ^ m) (hb : b.natAbs < 2 ^ n) : (a * b).natAbs < 2 ^ (m + n) := wide_lt ha hb
theorem pw_add {a b : Int} {n : Nat} (ha : a.natAbs < 2 ^ n) (hb : b.natAbs < 2 ^ n) : (a + b).natAbs < 2 ^ (n + 1) := by
  rw [Nat.pow_succ]
  omega
theorem pw_sub {a b : Int} {n : Nat} (ha : a.natAbs < 2 ^ n) (hb : b.natAbs < 2 ^ n) : (a - b).natAbs < 2 ^ (n + 1) := by
  rw [Nat.pow_succ]
  omega
theorem ipow_le {c a b : Nat} (hc : 0 < c) (h : a ≤ b) : (c : Int) ^ a ≤ (c : Int) ^ b := by
  rw [← Int.natCast_pow, ← Int.natCast_pow]
  exact Int.ofNat_le.mpr (Nat.pow_le_pow_right hc h)
theorem fm2 (x : Nat) : (x : Int).fmod 2 = ((x % 2 : Nat) : Int) := by
  rw [Int.fmod_eq_emod_of_nonneg _ (by decide)]
  rfl
theorem sh1 (x : Nat) : (x : Int) / 2 ^ Int.toNat 1 = ((x / 2 : Nat) : Int) := rfl
theorem gcd_both {x y : Nat} (hx : x % 2 = 0) (hy : y % 2 = 0) : Nat.gcd x y = 2 * Nat.gcd (x / 2) (y / 2) := by
  have ex : x = 2 * (x / 2) := by omega
  have ey : y = 2 * (y / 2) := by omega
  rw [← Nat.gcd_mul_left, ← ex, ← ey]
theorem dvd_two {k : Nat} (h : k ∣ 2) : k = 1 ∨ k = 2 := by
  have : k ≤ 2 := Nat.le_of_dvd (by decide) h
  rcases (show k = 0 ∨ k = 1 ∨ k = 2 by omega) with rfl | rfl | rfl
  · exact absurd h (by decide)
  · exact .inl rfl
  · exact .inr rfl
theorem gcd_left {x y : Nat} (hx : x % 2 = 0) (hy : y % 2 = 1) : Nat.gcd (x / 2) y = Nat.gcd x y := by
  have ex : x = 2 * (x / 2) := by omega
  have c : Nat.Coprime 2 y := by
    unfold Nat.Coprime
    have := Nat.gcd_dvd_left 2 y
    have h2 : Nat.gcd 2 y ∣ y := Nat.gcd_dvd_right 2 y
    rcases (dvd_two this) with h | h
    · exact h
    · rw [h] at h2
      omega
  have h := Nat.Coprime.gcd_mul_left_cancel (x / 2) c
  rw [← ex] at h
  exact h.symm
theorem gcd_right {x y : Nat} (hx : x % 2 = 1) (hy : y % 2 = 0) : Nat.gcd x (y / 2) = Nat.gcd x y := by
  rw [Nat.gcd_comm x, Nat.gcd_comm x]
  exact gcd_left hy hx
theorem gcd_sub {x y : Nat} (h : y ≤ x) : Nat.gcd (x - y) y = Nat.gcd x y := Nat.gcd_sub_self_left h
/-- the while loops' tests pass on what they find -/
theorem mono_neI {i : Nat} {n : Int} {σ : L2.St} {H : Hp} {Q Q' : Bool → Hp → Prop} (hQ : ∀ b H1, Q b H1 → Q' b H1) (h : tTest (tOp rNe (tVar i) (tC (.int n))) σ H Q) : tTest (tOp rNe (tVar i) (tC (.int n))) σ H Q' := by
  obtain ⟨v, e, s, k, e2, q⟩ := h
  exact ⟨v, e, s, k, e2, hQ _ _ q⟩
end Zk
set_option Elab.async false
set_option linter.all false
set_option maxRecDepth 100000
set_option maxHeartbeats 2000000
namespace Zk
open PySem PySem.Spec PyProof.Rows L2
/-! ## parts: the mathematics -/
def partF : Nat → Int → Int × Nat
  | 0, n => (n, 0)
  | e + 1, n => if n % 2 = 0 then partF e (n / 2) else (n, e + 1)
theorem and_odd (k : Nat) : (2 * k + 1) &&& (2 * k) = 2 * k := by
  have h1 : ((2 * k + 1) &&& (2 * k)) / 2 = k := by
    rw [Nat.and_div_two, show (2 * k + 1) / 2 = k by omega, show 2 * k / 2 = k by omega, Nat.and_self]
  have h2 : ((2 * k + 1) &&& (2 * k)) % 2 = 0 := by
    rcases (show ((2 * k + 1) &&& (2 * k)) % 2 = 0 ∨ ((2 * k + 1) &&& (2 * k)) % 2 = 1 by omega) with h | h
    · exact h
    · have := (Nat.and_mod_two_eq_one.mp h).2
      omega
  omega
theorem and_even {k : Nat} (hk : 0 < k) : (2 * k) &&& (2 * k - 1) = 2 * (k &&& (k - 1)) := by
  have h1 : ((2 * k) &&& (2 * k - 1)) / 2 = (k &&& (k - 1)) := by
    rw [Nat.and_div_two, show 2 * k / 2 = k by omega, show (2 * k - 1) / 2 = k - 1 by omega]
  have h2 : ((2 * k) &&& (2 * k - 1)) % 2 = 0 := by
    rcases (show ((2 * k) &&& (2 * k - 1)) % 2 = 0 ∨ ((2 * k) &&& (2 * k - 1)) % 2 = 1 by omega) with h | h
    · exact h
    · have := (Nat.and_mod_two_eq_one.mp h).1
      omega
  omega
theorem low_bit : ∀ (b n : Nat), n ≤ b → 0 < n → ∃ v m : Nat, n = 2 ^ v * (2 * m + 1) ∧ n - (n &&& (n - 1)) = 2 ^ v ∧ (n &&& (n - 1)) ≤ n
  | 0, n, h, h0 => by omega
  | b + 1, n, h, h0 => by
    rcases (show n % 2 = 1 ∨ n % 2 = 0 by omega) with ho | he
    · refine ⟨0, n / 2, by omega, ?_, ?_⟩
      · have e := and_odd (n / 2)
        rw [show 2 * (n / 2) + 1 = n by omega, show 2 * (n / 2) = n - 1 by omega] at e
        rw [e]
        omega
      · exact Nat.and_le_left
    · obtain ⟨v, m, e1, e2, e3⟩ := low_bit b (n / 2) (by omega) (by omega)
      refine ⟨v + 1, m, ?_, ?_, Nat.and_le_left⟩
      · rw [Nat.pow_succ, Nat.mul_comm (2 ^ v) 2, Nat.mul_assoc, ← e1]
        omega
      · have e := and_even (k := n / 2) (by omega)
        rw [show 2 * (n / 2) = n by omega] at e
        rw [e, Nat.pow_succ, ← e2]
        omega
theorem bits_low {x : Int} (hx : x ≠ 0) : ∃ (v : Nat) (m : Int), x = 2 ^ v * m ∧ m % 2 = 1 ∧ Builtin.Int.intBits (Builtin.bitAnd x (-x)) = v + 1 := by
  obtain ⟨v, m, e1, e2, e3⟩ := low_bit x.natAbs x.natAbs (Nat.le_refl _) (by omega)
  have ea : Builtin.bitAnd x (-x) = ((2 ^ v : Nat) : Int) := by
    rcases (show 0 < x ∨ x < 0 by omega) with h | h
    · rw [bitAnd_pn (by omega) (by omega)]
      have e : (Builtin.bitNot (-x)).toNat = x.natAbs - 1 := by
        unfold Builtin.bitNot
        omega
      rw [e, show x.toNat = x.natAbs by omega, ← e2]
      omega
    · rw [bitAnd_np (by omega) (by omega)]
      have e : (Builtin.bitNot x).toNat = x.natAbs - 1 := by
        unfold Builtin.bitNot
        omega
      rw [e, show (-x).toNat = x.natAbs by omega, ← e2]
      omega
  have p0 : 0 < 2 ^ v := Nat.pow_pos (by decide)
  have eb : Builtin.Int.intBits (Builtin.bitAnd x (-x)) = v + 1 := by
    rw [ea]
    unfold Builtin.Int.intBits
    rw [if_neg (show ¬ ((((2 ^ v : Nat) : Int) == 0) = true) from fun z => by
      have := eq_of_beq z
      omega), Int.natAbs_natCast, Nat.log2_two_pow]
  have ec : ((2 : Int) ^ v) = ((2 ^ v : Nat) : Int) := by rw [Int.natCast_pow]; rfl
  rcases (show 0 < x ∨ x < 0 by omega) with h | h
  · refine ⟨v, 2 * (m : Int) + 1, ?_, by omega, eb⟩
    have : x = (x.natAbs : Int) := by omega
    rw [this, e1, Int.natCast_mul, ec]
    rfl
  · refine ⟨v, -(2 * (m : Int) + 1), ?_, by omega, eb⟩
    have : x = -(x.natAbs : Int) := by omega
    rw [this, e1, Int.natCast_mul, ec, Int.mul_neg]
    rfl
theorem partF_zero (e : Nat) : partF e 0 = (0, 0) := by
  induction e with
  | zero => rfl
  | succ e ih => exact ih
theorem two_even (v : Nat) (m : Int) : (2 ^ (v + 1) * m) % 2 = 0 ∧ (2 ^ (v + 1) * m) / 2 = 2 ^ v * m := by
  have e : (2 : Int) ^ (v + 1) * m = 2 * (2 ^ v * m) := by
    rw [Int.pow_succ, Int.mul_comm (2 ^ v) 2, Int.mul_assoc]
  rw [e]
  omega
theorem partF_val : ∀ (e v : Nat) (m : Int), m % 2 = 1 → partF e (2 ^ v * m) = ((2 ^ v * m) / 2 ^ (min v e), e - min v e)
  | 0, v, m, h => by
    rw [Nat.min_zero, Int.pow_zero, Int.ediv_one]
    rfl
  | e + 1, 0, m, h => by
    unfold partF
    rw [Int.pow_zero, Int.one_mul, if_neg (by omega), Nat.zero_min, Int.pow_zero, Int.ediv_one]
    rfl
  | e + 1, v + 1, m, h => by
    unfold partF
    rw [if_pos (two_even v m).1, (two_even v m).2, partF_val e v m h, Nat.succ_min_succ]
    refine Prod.ext ?_ ?_
    · show 2 ^ v * m / 2 ^ min v e = 2 ^ (v + 1) * m / 2 ^ (min v e + 1)
      rw [Int.pow_succ, Int.pow_succ, Int.mul_comm (2 ^ v) 2, Int.mul_comm (2 ^ min v e) 2, Int.mul_assoc, Int.mul_ediv_mul_of_pos _ _ (by decide)]
    · show e - min v e = e + 1 - (min v e + 1)
      omega
theorem partF_shift (e k : Nat) (n : Int) : partF (e + k) (n * 2 ^ k) = partF e n := by
  induction k with
  | zero => rw [Int.pow_zero, Int.mul_one]; rfl
  | succ k ih =>
    show (if (n * 2 ^ (k + 1)) % 2 = 0 then partF (e + k) ((n * 2 ^ (k + 1)) / 2) else (n * 2 ^ (k + 1), e + k + 1)) = partF e n
    have e1 : n * 2 ^ (k + 1) = 2 * (n * 2 ^ k) := by
      rw [Int.pow_succ, ← Int.mul_assoc, Int.mul_comm]
    rw [if_pos (by rw [e1]; omega), show n * 2 ^ (k + 1) / 2 = n * 2 ^ k by rw [e1]; omega]
    exact ih
theorem partF_is : ∀ (e : Nat) (n : Int), (partF e n).2 = 0 ∨ (partF e n).1 % 2 = 1
  | 0, n => .inl rfl
  | e + 1, n => by
    unfold partF
    by_cases h : n % 2 = 0
    · rw [if_pos h]
      exact partF_is e _
    · rw [if_neg h]
      right
      show n % 2 = 1
      omega
theorem partF_le : ∀ (e : Nat) (n : Int), (partF e n).1.natAbs ≤ n.natAbs ∧ (partF e n).2 ≤ e
  | 0, n => ⟨Nat.le_refl _, Nat.le_refl _⟩
  | e + 1, n => by
    unfold partF
    by_cases h : n % 2 = 0
    · rw [if_pos h]
      have := partF_le e (n / 2)
      omega
    · rw [if_neg h]
      exact ⟨Nat.le_refl _, Nat.le_refl _⟩
/-- what is a part already stays -/
theorem partF_id {e : Nat} {n : Int} (h : e = 0 ∨ n % 2 = 1) : partF e n = (n, e) := by
  cases e with
  | zero => rfl
  | succ e =>
    unfold partF
    rw [if_neg (by omega)]
theorem sum_shift (a b : Int) (e1 e2 : Nat) : partF (max e1 e2) (a * 2 ^ (max e1 e2 - e1) + b * 2 ^ (max e1 e2 - e2)) = partF (e1 + e2) (a * 2 ^ e2 + b * 2 ^ e1) := by
  have h1 : max e1 e2 + min e1 e2 = e1 + e2 := by omega
  rw [← partF_shift (max e1 e2) (min e1 e2), h1, Int.add_mul, Int.mul_assoc, Int.mul_assoc, ← Int.pow_add, ← Int.pow_add, show max e1 e2 - e1 + min e1 e2 = e2 by omega, show max e1 e2 - e2 + min e1 e2 = e1 by omega]
theorem bits_least {n c : Nat} (h : n < 2 ^ c) (h' : ∀ d, d < c → 2 ^ d ≤ n) : Builtin.Int.intBits (n : Int) = c := by
  unfold Builtin.Int.intBits
  by_cases h0 : n = 0
  · subst h0
    rw [if_pos (show ((((0 : Nat) : Int) == 0) = true) from rfl)]
    cases c with
    | zero => rfl
    | succ c => have := h' 0 (by omega); simp at this
  · rw [if_neg (show ¬ (((n : Int) == 0) = true) from fun z => by
      have := eq_of_beq z
      omega), Int.natAbs_natCast]
    cases c with
    | zero => simp at h; omega
    | succ c =>
      have h1 := h' c (by omega)
      have := (Nat.log2_eq_iff h0 (k := c)).mpr ⟨h1, h⟩
      omega
end Zk
set_option Elab.async false
set_option linter.all false
set_option maxRecDepth 100000
set_option maxHeartbeats 2000000
/-! Generator expressions whose element is any expression of the layer (calls of defs, captured names), consumed by all(..): after the pattern of the list comprehension's rule, over segments. -/
namespace Zk
open PySem PySem.Spec PyProof.Rows L2 GenW GxR
/-- the context of a generator expression's frame, running in A -/
abbrev gen (X : Cx) (s : Shared) (H : Hp) (cenv : Env) (fp : List Addr) (A : Around) : Cx := { X with s_0 := s, H_0 := H, A := A, env := cenv, outer := X.stack, stack := cenv :: X.stack, ex := fp, fn := fun _ => false, pn := [], xe := fun _ _ => False }
theorem over_comp {A : Around} {e : Expr} {it acc : Value} {env : Env} (he : ∃ elt gs sc p, e = .GeneratorExp elt gs sc p) : A.over (.compLoop e 0 it acc env) [] = A.deeper env := by
  obtain ⟨elt, gs, sc, p, rfl⟩ := he
  first
    | rfl
    | (obtain ⟨hd, d, fr, gs, u⟩ := A; simp [Around.over, Around.deeper, marksOver, frameCount, unitsOf, envsOf, guardsOf, pushEnvs, pushGuards, Code.envs, Code.env?, Code.isFrame, Code.guards, Code.isGuard, Code.weight, Code.frames, Code.isCreation, Code.isCaller, Code.cUnits])
theorem over_compS {A : Around} {e : Expr} {it acc : Value} {env : Env} (he : ∃ elt gs sc p, e = .GeneratorExp elt gs sc p) : A.over (.compStart e 0 it acc env) [] = A.deeper env := by
  obtain ⟨elt, gs, sc, p, rfl⟩ := he
  first
    | rfl
    | (obtain ⟨hd, d, fr, gs, u⟩ := A; simp [Around.over, Around.deeper, marksOver, frameCount, unitsOf, envsOf, guardsOf, pushEnvs, pushGuards, Code.envs, Code.env?, Code.isFrame, Code.guards, Code.isGuard, Code.weight, Code.frames, Code.isCreation, Code.isCaller, Code.cUnits])
section
variable {X : Cx} {pins : List (Addr × Obj)} {σ : L2.St} {H : Hp} {s : Shared}
theorem gen_start {scope : Scope} {own : List (Str × Nat)} {fp : List Addr} {cenv : Env} {code : Value} {A : Around} {s5 : Shared} {m : Str → Option Value} (I : Inv X pins σ H s) (ok : BlkOk X.N X.env.scope scope own) (hN : X.N.Nodup) (hnc : ∀ y ∈ scope.names, y.2 ≠ .cell)
    (hfp : ∀ b ∈ fp, FpOk X pins H b ∧ b < s.heap.objs.size) (hcenv : cenv = genEnv scope (cloFrom X.env.cells scope.names []) s.heap.objs.size code builtinsNs X.env) (hA : A.frames = some (cenv :: X.stack)) (hAh : A.handled = none)
    (hos : s5.os = s.os) (hb5 : AllBare s5.gens) (kp : ∀ b o, s.heap.get? b = some o → s5.heap.get? b = some o) (hns : s5.heap.Ns s.heap.objs.size m) :
    Inv (gen X s H cenv fp A) [] (wipe σ (own.map (·.2))) H s5 := by
  have hfree : ∀ y ∈ scope.names, y.2 = .free → ∃ c, X.env.cells.lookup y.1 = some c := fun y hy e => by
    rcases ok.free y hy e with k | k
    · exact I.ok.has _ (.inl k)
    · exact I.ok.has _ (.inr k)
  have hL : cenv.locals = s.heap.objs.size := by rw [hcenv]; rfl
  have hcl : cenv.cells = cloFrom X.env.cells scope.names [] := by rw [hcenv]; rfl
  have hsc : cenv.scope = scope := by rw [hcenv]; rfl
  have cm : ∀ {y c}, (y, c) ∈ cloFrom X.env.cells scope.names [] → X.env.cells.lookup y = some c ∧ c < s.heap.objs.size := fun {y c} hm => by
    rcases cloFrom_mem hm with hm | ⟨h1, rfl⟩
    · cases hm
    · obtain ⟨c, hc⟩ := hfree _ h1 rfl
      rw [hc]
      obtain ⟨w, z⟩ := I.cell _ _ hc
      exact ⟨rfl, z.lt⟩
  have mem : ∀ {y c}, cenv.cells.lookup y = some c → X.env.cells.lookup y = some c ∧ c < s.heap.objs.size := fun {y c} e => by
    rw [hcl] at e
    exact cm (PySem.mem_of_lookup e)
  have look : ∀ {y}, scope.names.lookup y = some .free → ∃ c, cenv.cells.lookup y = some c ∧ X.env.cells.lookup y = some c := fun {y} hl => by
    have hy : (y, NameKind.free) ∈ scope.names := PySem.mem_of_lookup hl
    obtain ⟨c', e'⟩ := mem_lookup (cloFrom_has (cells := X.env.cells) (acc := []) hy)
    rw [← hcl] at e'
    exact ⟨c', e', (mem e').1⟩
  have okB : (gen X s H cenv fp A).Ok := by
    refine ⟨I.ok.mod, by show cenv.scope.kind = _; rw [hsc]; exact ok.kind, by show cenv.globals = _; rw [hcenv]; exact I.ok.glob, by show cenv.builtins = _; rw [hcenv]; rfl, by show s.heap.objs.size ≤ cenv.locals; rw [hL]; exact Nat.le_refl _,
      fun y z c e1 e2 => ?_, fun y hy => ?_, fun y c z e => ?_, fun _ => hAh, hA, .inr ⟨rfl, ?_⟩, fun b hb => ⟨?_, fun y c e z => ?_⟩, I.bs, Nat.le_trans I.ok.bsz I.sz, fun b o e hb => ?_, fun b hb z => ?_, I.stack, I.stkFree⟩
    · exact I.ok.inj y z c (mem e1).1 (mem e2).1
    · show ∃ c, cenv.cells.lookup y = some c
      have key : ∀ k, cenv.kindOf y = some k → (k = .cell ∨ k = .free) → ∃ c, cenv.cells.lookup y = some c := fun k hk hk' => by
        unfold Env.kindOf at hk
        rw [hsc] at hk
        rcases hk' with rfl | rfl
        · exact absurd rfl (hnc _ (PySem.mem_of_lookup hk))
        · obtain ⟨c, h1, _⟩ := look hk
          exact ⟨c, h1⟩
      rcases hy with hy | hy
      · exact key _ hy (.inl rfl)
      · exact key _ hy (.inr rfl)
    · cases z
    · show cenv.frame = some cenv.locals
      rw [hcenv]
      rfl
    · show b ≠ cenv.locals
      rw [hL]; exact Nat.ne_of_lt (hfp b hb).2
    · exact (hfp b hb).1.2.2.2.2.1 y c (mem e).1 z
    · rcases (hfp b hb).1.2.2.2.1 with z | z
      · exact I.ok.noex b o e z
      · exact absurd (Nat.lt_of_lt_of_le (Heap.lt_size e) (Nat.le_trans I.ok.bsz z)) (Nat.lt_irrefl _)
    · rcases List.mem_cons.mp (I.stkSub b z) with z | z
      · exact (hfp b hb).1.2.1 z
      · exact (hfp b hb).1.2.2.1 z
  refine ⟨okB, hos, hb5, Un.kept kp, ⟨m, ?_, fun i y av e1 e2 e3 => ?_⟩, fun y c e => ?_, ?_, fun y c e => ?_, fun p hp => ?_, I.hok.kept kp, by rw [wipe_length]; exact I.len⟩
  · show Heap.Ns _ cenv.locals _
    rw [hL]
    exact hns
  · obtain ⟨e2, hne⟩ := wipe_some e2
    have hfr : scope.names.lookup y = some .free := by
      have key : ∀ k, cenv.scope.names.lookup y = some k → k = .local ∨ k = .cell ∨ k = .free → scope.names.lookup y = some .free := fun k hk hk' => by
        rw [hsc] at hk
        rcases hk' with rfl | rfl | rfl
        · exfalso
          rcases ok.own _ (PySem.mem_of_lookup hk) (.inl rfl) with e' | e'
          · obtain ⟨p, hp, hpy⟩ := List.mem_map.mp e'
            have e3 := ok.ix p hp
            have : p.1 = y := hpy
            rw [this] at e3
            exact hne (List.mem_map.mpr ⟨p, hp, nodup_ix hN e3 e1⟩)
          · exact e' (List.mem_of_getElem? e1)
        · exact absurd rfl (hnc _ (PySem.mem_of_lookup hk))
        · exact hk
      have e3 : Vis cenv.scope y := e3
      rcases e3 with e3 | e3 | e3
      · exact key _ e3 (.inl rfl)
      · exact key _ e3 (.inr (.inl rfl))
      · exact key _ e3 (.inr (.inr rfl))
    obtain ⟨m, hn, hl⟩ := I.loc
    have hvis : Vis X.env.scope y := (ok.free _ (PySem.mem_of_lookup hfr) rfl).elim (fun k => .inr (.inl k)) (fun k => .inr (.inr k))
    obtain ⟨w, r, q⟩ := hl i y av e1 e2 hvis
    refine ⟨w, r, .inr ⟨.inr ?_, ?_⟩⟩
    · show cenv.scope.names.lookup y = some .free
      rw [hsc]
      exact hfr
    obtain ⟨c, h1, h2⟩ := look hfr
    rcases q with ⟨k, _⟩ | ⟨_, c', e', z⟩
    · have k : X.env.scope.names.lookup y = some .local := k
      rcases ok.free _ (PySem.mem_of_lookup hfr) rfl with k' | k' <;> rw [show X.env.scope.names.lookup y = _ from k'] at k <;> cases k
    · rw [h2] at e'; cases e'
      exact ⟨c, h1, z.keeps kp⟩
  · obtain ⟨w, z⟩ := I.cell y c (mem e).1
    exact ⟨w, z.keeps kp⟩
  · show H cenv.locals = none
    rw [hL]; exact I.hok.fresh (Nat.le_refl _)
  · exact I.freeC y c (mem e).1
  · exact absurd (show p ∈ ([] : List (Addr × Obj)) ++ [] from hp) (by simp)
/-- all that stood stands as it was -/
def Woken (s s'' : Shared) : Prop := s''.os = s.os ∧ AllBare s''.gens ∧ ∀ b o, s.heap.get? b = some o → s''.heap.get? b = some o
theorem inv_woken {s'' : Shared} (I : Inv X pins σ H s) (w : Woken s s'') : Inv X pins σ H s'' := by
  obtain ⟨h', g', d', t', o'⟩ := s''
  obtain ⟨w1, w2, w3⟩ := w
  have e : o' = s.os := w1
  subst e
  refine I.step (g' := g') (d' := d') (t' := t') (ch := []) (fun b hb => absurd hb (by simp)) (fun b o _ _ _ e _ => w3 b o e) (fun b o _ _ _ e _ => ⟨o.slots, w3 b o e⟩) (fun _ _ _ _ n => n)
    (fun b o _ e => ⟨o, w3 b o e⟩) (fun _ _ e => e) (fun _ _ _ e => e) (fun b ps e => ⟨#[], by rw [e]; simp⟩) (fun m hm => ?_) (fun b u e => ?_) w2
  · obtain ⟨ob, es, ep, ho, r⟩ := hm
    exact ⟨ob, es, ep, w3 _ ob ho, r⟩
  · exact (I.hok b u e).stay (fun d v _ q => w3 d v q) (fun d q => q) fun d xs q => q
/-! ### all(.. for .. in ..) -/
/-- an item is handed out: a truth -/
def YAll (G : Cx) (p0 : List (Addr × Obj)) (Qf : Hp → Prop) : Protocol := fun _ _ v s kap =>
  ∃ (k : Bool) (σ2 : L2.St) (H : Hp), v = .bool k ∧ Inv G p0 σ2 H s ∧ (k = true → ∀ s'', Woken s s'' → kap (.send .none) s'') ∧ (k = false → Qf H)
def FAll (G : Cx) (p0 : List (Addr × Obj)) (Qt : Hp → Prop) : Nat → Shared → Shared → Prop := fun _ _ s => ∃ (σ2 : L2.St) (H : Hp), Inv G p0 σ2 H s ∧ Qt H
def RAll (G : Cx) (p0 : List (Addr × Obj)) (Qt : Hp → Prop) : GenEnd := fun n s₀ r s₁ => ((r = .ok (.ret .none) ∨ r = .ok .next) ∧ FAll G p0 Qt n s₀ s₁) ∨ ∃ e, r = .error e ∧ (fun (_ : Value) (_ : Shared) => False) e s₁
/-- what the loop's turns ask -/
def AllTurns (J : It) (g : TG) (tt : TT) (te : TE) (vs : List Nat) (σw : L2.St) (W : Nat → Nat → Hp → Prop) (Qt Qf : Hp → Prop) : Prop :=
  ∀ i m H, W i m H → (J.stop i H ∧ Qt H) ∨ (J.go i H ∧ ∃ Nx : Hp → Prop, (∀ H', Nx H' → ∃ m', m' < m ∧ W (i + 1) m' H') ∧ ∀ x H', J.yld i H x H' → g x σw H' fun σ2 H2 => wipe σ2 vs = σw ∧ tt σ2 H2 fun b H3 =>
    if b = true then te σ2 H3 fun y H4 => ∃ k, y = .bl k ∧ (if k = true then Nx H4 else Qf H4) else Nx H3)
theorem seg_all {elt tg iter : Expr} {ifs : List Expr} {scope : Scope} {pos : Pos} {it : Addr} {fp : List Addr} {tn : Nat → Heap → Prop} {J : It} {W : Nat → Nat → Hp → Prop} {σw : L2.St} {vs : List Nat} {A : Around} {cenv : Env} {s3 : Shared} {H3 : Hp} {p0 : List (Addr × Obj)} {Qt Qf : Hp → Prop} {g : TG} {tt : TT} {te : TE}
    (hc : X.calm = true) (hco : cenv.scope.isCoroutine = false) (T : Turn X.prog X.w X.K tg J fp it tn) (hp0 : ∀ p ∈ p0, p.1 ∉ fp)
    (pg : PG (gen X s3 H3 cenv fp (A.deeper cenv)) tg g) (pt : PTs (gen X s3 H3 cenv fp (A.deeper cenv)) ifs tt) (pe : PE (gen X s3 H3 cenv fp (A.deeper cenv)) elt te) (turn : AllTurns J g tt te vs σw W Qt Qf) :
    ∀ (m i n : Nat) (s₀ s : Shared) (H : Hp), m < n → Inv (gen X s3 H3 cenv fp (A.deeper cenv)) p0 σw H s → tn i s.heap → (∀ b ∈ fp, H b = none) → W i m H →
      Seg (model X.prog X.w) A (RAll (gen X s3 H3 cenv fp (A.deeper cenv)) p0 Qt) (YAll (gen X s3 H3 cenv fp (A.deeper cenv)) p0 Qf) n s₀ (.compLoop (.GeneratorExp elt [⟨tg, iter, ifs, 0⟩] scope pos) 0 (.ref it) .none cenv)
        ((model X.prog X.w).den (.compLoop (.GeneratorExp elt [⟨tg, iter, ifs, 0⟩] scope pos) 0 (.ref it) .none cenv)) [] s := by
  have ov : A.over (.compLoop (.GeneratorExp elt [⟨tg, iter, ifs, 0⟩] scope pos) 0 (.ref it) .none cenv) [] = A.deeper cenv := over_comp ⟨_, _, _, _, rfl⟩
  have stat : ∀ {σ' : L2.St} {H' : Hp} {s' : Shared}, Inv (gen X s3 H3 cenv fp (A.deeper cenv)) p0 σ' H' s' → (∀ b ∈ fp, H' b = none) → ∀ b ∈ fp, FpOk (gen X s3 H3 cenv fp (A.deeper cenv)) p0 H' b := fun {σ' H' s'} I' hn b hb =>
    ⟨hn b hb, (I'.ok.exf b hb).1, I'.ok.exfs b hb, .inl hb, fun x c e => (I'.ok.exf b hb).2 x c e, fun p hp z => by
      rcases List.mem_append.mp hp with hp | hp
      · cases hp
      · exact hp0 p hp (z ▸ hb)⟩
  intro m
  induction m using Nat.strongRecOn with
  | ind m ih =>
    intro i n s₀ s H hmn I st nf w
    obtain ⟨n, rfl⟩ : ∃ k, n = k + 1 := ⟨n - 1, by omega⟩
    show Seg _ A _ _ _ s₀ _ ((compTurn (.GeneratorExp elt [⟨tg, iter, ifs, 0⟩] scope pos) 0 (.ref it) .none cenv).onRaise (leaving cenv)) [] s
    rw [compTurn_gen, Sem.onRaise_eq_wrap]
    refine seg_bind_wrap (wpAny_standAt ?_)
    rcases turn i m H w with ⟨stop, qq⟩ | ⟨go, Nx, hNx, step⟩
    · have td := T.done (gen X s3 H3 cenv fp (A.deeper cenv)) rfl rfl rfl hc i p0 s _ H (fun _ _ => False) I (stat I nf) st stop
      refine seg_bind_wrap ?_
      rw [ov]
      refine thnF td fun r s6 ⟨hr, I6⟩ => ?_
      subst hr
      exact seg_end (.ok .next) (.inl ⟨.inr rfl, _, _, I6, qq⟩)
    · have ti := T.item (gen X s3 H3 cenv fp (A.deeper cenv)) rfl rfl rfl hc i p0 s _ H (fun _ _ => False) I (stat I nf) st go
      refine seg_bind_wrap ?_
      rw [ov]
      refine thnF ti fun r s6 ⟨u, hr, h6⟩ => ?_
      subst hr
      refine seg_bind_wrap ?_
      rw [ov]
      refine thnF h6 fun _ s7 ⟨x, H7, I7, r7, y7, st7, n7⟩ => ?_
      have I7' := I7.pinned (stat I7 n7) (T.obj _ _ st7)
      refine seg_bind_wrap ?_
      rw [ov]
      refine thnF (pg.run _ s7 _ H7 x u _ I7' r7 (step x H7 y7)) fun _ s8 ⟨σ8, H8, I8, hw8, q8⟩ => ?_
      refine seg_bind_wrap ?_
      rw [ov]
      refine thnF (pt.run _ s8 σ8 H8 _ I8 q8) fun b s9 ⟨H9, I9, q9⟩ => ?_
      -- the turn's end
      have fin : ∀ {s' s'' : Shared} {H' : Hp} {n' : Nat} {s0' : Shared}, Inv (gen X s3 H3 cenv fp (A.deeper cenv)) (p0 ++ pinsAt fp s7.heap) σ8 H' s' → Woken s' s'' → Nx H' → m ≤ n' →
          Seg (model X.prog X.w) A (RAll (gen X s3 H3 cenv fp (A.deeper cenv)) p0 Qt) (YAll (gen X s3 H3 cenv fp (A.deeper cenv)) p0 Qf) n' s0' (.compLoop (.GeneratorExp elt [⟨tg, iter, ifs, 0⟩] scope pos) 0 (.ref it) .none cenv)
            ((model X.prog X.w).den (.compLoop (.GeneratorExp elt [⟨tg, iter, ifs, 0⟩] scope pos) 0 (.ref it) .none cenv)) [] s'' := fun {s' s'' H' n' s0'} I' wk nx hn' => by
        obtain ⟨m', hm, w'⟩ := hNx H' nx
        have pin' : ∀ b ∈ fp, ∀ o, s7.heap.get? b = some o → s'.heap.get? b = some o ∧ H' b = none := fun b hb o e =>
          let z := I'.pin (b, o) (List.mem_append_right _ (List.mem_append_right _ (mem_pinsAt hb e)))
          ⟨z.1, z.2.1⟩
        have hl : σw.length = σ8.length := by rw [← hw8, wipe_length]
        refine ih m' hm (i + 1) n' s0' s'' H' (by omega) (inv_woken ((I'.unpinned (pins := p0)).weak hl (fun j v e => ?_)) wk) (T.keep _ _ _ st7 fun b hb o e => wk.2.2 b o (pin' b hb o e).1) (fun b hb => ?_) w'
        · rw [← hw8] at e
          exact (wipe_some e).1
        · obtain ⟨o, e, _⟩ := T.obj _ _ st7 b hb
          exact (pin' b hb o e).2
      have wk0 : ∀ {s' : Shared} {H' : Hp} {pl : List (Addr × Obj)} {σ' : L2.St}, Inv (gen X s3 H3 cenv fp (A.deeper cenv)) pl σ' H' s' → Woken s' s' := fun I' => ⟨rfl, I'.bare, fun _ _ e => e⟩
      cases b with
      | false =>
        simp only [Bool.false_eq_true, if_false] at q9 ⊢
        exact seg_again rfl (fin I9 (wk0 I9) q9 (by omega))
      | true =>
        simp only [if_true] at q9 ⊢
        have hy : ∀ v, yieldOut cenv v = yieldValue v := fun v => by simp only [yieldOut, hco, Bool.false_eq_true, if_false]
        simp only [hy]
        rw [Sem.bind_eq_wrap', Sem.bind_eq_wrap', Sem.wrap_wrap, Sem.wrap_wrap]
        refine seg_wrap ?_
        rw [ov]
        refine thnF (pe.run _ s9 σ8 H9 _ I9 q9) fun z s10 ⟨yv, H10, I10, r10, k, hk, nx⟩ => ?_
        subst hk
        cases (show z = Value.bool k from r10)
        refine seg_at (seg_yield rfl rfl rfl ⟨k, σ8, H10, rfl, I10.unpinned, fun hk s'' wk => ?_, fun hk => ?_⟩)
        · rw [if_pos hk] at nx
          exact seg_again rfl (fin I10 wk nx (by omega))
        · rw [hk] at nx
          simpa using nx
theorem seg_allStart {elt tg iter : Expr} {ifs : List Expr} {scope : Scope} {pos : Pos} {it : Addr} {fp : List Addr} {tn : Nat → Heap → Prop} {J : It} {W : Nat → Nat → Hp → Prop} {σw : L2.St} {vs : List Nat} {A : Around} {cenv : Env} {s3 : Shared} {H3 : Hp} {p0 : List (Addr × Obj)} {Qt Qf : Hp → Prop} {g : TG} {tt : TT} {te : TE}
    (hc : X.calm = true) (hco : cenv.scope.isCoroutine = false) (T : Turn X.prog X.w X.K tg J fp it tn) (hp0 : ∀ p ∈ p0, p.1 ∉ fp)
    (pg : PG (gen X s3 H3 cenv fp (A.deeper cenv)) tg g) (pt : PTs (gen X s3 H3 cenv fp (A.deeper cenv)) ifs tt) (pe : PE (gen X s3 H3 cenv fp (A.deeper cenv)) elt te) (turn : AllTurns J g tt te vs σw W Qt Qf)
    (m n : Nat) (s₀ s : Shared) (H : Hp) (hmn : m < n) (I : Inv (gen X s3 H3 cenv fp (A.deeper cenv)) p0 σw H s) (st : tn 0 s.heap) (nf : ∀ b ∈ fp, H b = none) (w : W 0 m H) :
      Seg (model X.prog X.w) A (RAll (gen X s3 H3 cenv fp (A.deeper cenv)) p0 Qt) (YAll (gen X s3 H3 cenv fp (A.deeper cenv)) p0 Qf) n s₀ (.compStart (.GeneratorExp elt [⟨tg, iter, ifs, 0⟩] scope pos) 0 (.ref it) .none cenv)
        ((model X.prog X.w).den (.compStart (.GeneratorExp elt [⟨tg, iter, ifs, 0⟩] scope pos) 0 (.ref it) .none cenv)) [] s := by
  have loop := fun s₀ => seg_all (iter := iter) (scope := scope) (pos := pos) hc hco T hp0 pg pt pe turn m 0 n s₀ s H hmn I st nf w
  show Seg _ A _ _ _ s₀ _ ((compStart (.GeneratorExp elt [⟨tg, iter, ifs, 0⟩] scope pos) 0 (.ref it) .none cenv).onRaise (leaving cenv)) [] s
  unfold compStart
  rw [Sem.onRaise_eq_wrap]
  show Seg _ A _ _ _ s₀ _ ((ask >>= _).wrap _ _ _ _) [] s
  refine seg_bind_wrap (wpAny_askSetting ?_)
  split
  · exact seg_again rfl (loop s₀)
  · first
      | exact seg_bind_wrap (wpAny_rule (seg_bind_wrap (wpAny_standAt (seg_bind_wrap (T.self _ 0 s _ _ st (seg_again rfl (loop s₀)))))))
      | (refine seg_bind_wrap (wpAny_rule ?_); show Seg _ A _ _ _ s₀ _ ((standAt iter.pos >>= _).wrap _ _ _ _) [] s; exact seg_bind_wrap (wpAny_standAt (seg_bind_wrap (T.self _ 0 s _ _ st (seg_again rfl (loop s₀))))))
theorem wk_setGen {s s1 : Shared} {g : Nat} {x : GenState} (w : Woken s s1) (hx : x.bare = true) : Woken s (s1.setGen g x) := ⟨w.1, allBare_setGen w.2.1 hx, w.2.2⟩
/-- the loop of all over such a generator -/
theorem all_loop {G : Cx} {p0 : List (Addr × Obj)} {Qt Qf : Hp → Prop} {A : Around} {R : Result → Shared → Prop} {a : Addr} {g : Nat} {oa : Obj} (hh : A.handled = none) (hd : A.depth < recursionLimit)
    (hpa : (a, oa) ∈ p0) (hga : ∀ h : Heap, h.get? a = some oa → h.IsGen a g)
    (hT : ∀ s1 s' σ2 H, Inv G p0 σ2 H s1 → Qt H → Woken s1 s' → R (.ok (.ret (.bool true))) s') (hF : ∀ s1 s' σ2 H, Inv G p0 σ2 H s1 → Qf H → Woken s1 s' → R (.ok (.ret (.bool false))) s') :
    ∀ (n : Nat) (s : Shared), s.heap.IsGen a g → s.heap.NoLimit →
      (∃ gs, s.gens[g]? = some gs ∧ gs.Goes (model G.prog G.w) A.in1.in1 (RAll G p0 Qt) (YAll G p0 Qf) n (.send .none) (s.setGen g .running)) →
      codeAny (model G.prog G.w) A (.builtin "all.loop" ⟨[.ref a], []⟩) R s := by
  intro n
  induction n with
  | zero =>
    intro s hg hl ⟨gs, hgs, hgo⟩
    refine codeAny_builtin F.entry_all_loop ?_
    rw [Around.under_plainId F.plain_all_loop _]
    show wpAny _ A.in1 (pyNext (.ref a) >>= _) _ _ s
    refine wpAny_bind (next_genG (A := A.in1) (F := FAll G p0 Qt) (Er := fun _ _ => False) hh hl hd hg hgs hgo (fun v s₁ gs' hbare hv => ?_) (fun s₁ hp h' hk => ?_) fun e s₁ he => he.elim)
    · obtain ⟨k, σ2, H, rfl, I, hk1, hk0⟩ := hv
      cases k with
      | true => exact (hk1 rfl s₁ ⟨rfl, I.bare, fun _ _ e => e⟩).elim
      | false =>
        show wpAny _ A.in1 (holding [Value.bool false] (truthy (.bool false)) >>= _) _ _ _
        refine wpAny_bind (wpAny_holding (wpAny_truthy_bool ?_))
        refine wpAny_bind (wpAny_letGo ?_)
        simp only [Bool.false_eq_true, if_false]
        refine wpAny_bind (wpAny_rule (wpAny_pure ?_))
        exact hF s₁ _ σ2 H I (hk0 rfl) (wk_setGen ⟨rfl, I.bare, fun _ _ e => e⟩ hbare)
    · obtain ⟨σ2, H, I, hq⟩ := hp
      refine wpAny_bind (wpAny_rule (wpAny_pure ?_))
      exact hT s₁ _ σ2 H I hq ⟨rfl, allBare_setGen I.bare rfl, hk⟩
  | succ n ih =>
    intro s hg hl ⟨gs, hgs, hgo⟩
    have hgl : g < s.gens.size := (Array.getElem?_eq_some_iff.mp hgs).1
    refine codeAny_builtin F.entry_all_loop ?_
    rw [Around.under_plainId F.plain_all_loop _]
    show wpAny _ A.in1 (pyNext (.ref a) >>= _) _ _ s
    refine wpAny_bind (wpAny_gsz (n := g + 1) hgl (next_genG (A := A.in1) (F := FAll G p0 Qt) (Er := fun _ _ => False) hh hl hd hg hgs hgo (fun v s₁ gs' hbare hv => ?_) (fun s₁ hp h' hk => ?_) fun e s₁ he => he.elim))
    · intro hsz
      obtain ⟨k, σ2, H, rfl, I, hk1, hk0⟩ := hv
      show wpAny _ A.in1 (holding [Value.bool k] (truthy (.bool k)) >>= _) _ _ _
      refine wpAny_bind (wpAny_holding (wpAny_truthy_bool ?_))
      refine wpAny_bind (wpAny_letGo ?_)
      have hsz1 : g < s₁.gens.size := by
        have q : (s₁.setGen g gs').gens.size = s₁.gens.size := setGen_size _ _ _
        have hsz' : g + 1 ≤ (s₁.setGen g gs').gens.size := hsz
        omega
      have w1 : Woken s₁ (s₁.setGen g gs') := wk_setGen ⟨rfl, I.bare, fun _ _ e => e⟩ hbare
      cases k with
      | true =>
        simp only [if_true]
        have ha : (s₁.setGen g gs').heap.get? a = some oa := (I.pin (a, oa) (List.mem_append_right _ hpa)).1
        refine wpAny_pure ⟨plainId_quiet F.plain_all_loop _, ih (s₁.setGen g gs') (hga _ ha) I.nolimit ⟨gs', setGen_at hsz1, hk1 rfl _ (wk_setGen w1 rfl)⟩⟩
      | false =>
        simp only [Bool.false_eq_true, if_false]
        refine wpAny_bind (wpAny_rule (wpAny_pure ?_))
        exact hF s₁ _ σ2 H I (hk0 rfl) w1
    · intro hsz
      obtain ⟨σ2, H, I, hq⟩ := hp
      refine wpAny_bind (wpAny_rule (wpAny_pure ?_))
      exact hT s₁ _ σ2 H I hq ⟨rfl, allBare_setGen I.bare rfl, hk⟩
/-- all(test for x in e): the element any expression of the layer -/
def tAllG (P : Addr) (wi : TI) (g : TG) (tt : TT) (te : TE) (vs : List Nat) : TE := fun σ H Q => wi σ H fun J H1 => TabG H1 P ∧ ∀ H2, Tabbed P H1 H2 →
  ∃ W : Nat → Nat → Hp → Prop, (∃ m, W 0 m H2) ∧ AllTurns J g tt te vs (wipe σ vs) W (fun H => Q (.bl true) H) (fun H => Q (.bl false) H)
/-- the generator expression's own scope -/
structure GScp (scope : Scope) : Prop where
  co : scope.isCoroutine = false
  nc : ∀ y ∈ scope.names, y.2 ≠ .cell
  dot : scope.names.lookup (".0" : Str) = some NameKind.local
theorem pe_all {c P : Addr} {elt tg iter : Expr} {ifs : List Expr} {scope : Scope} {own : List (Str × Nat)} {p pos gpos : Pos} {wi : TI} {g : TG} {tt : TT} {te : TE} {k : Nat}
    (hr : Room (k + 4) X.A) (hgl : Gl X "all") (hm : X.mg "all" = none) (TB : TabB X.base X.mg c P) (hcode : X.env.code = .ref c) (hc : X.calm = true) (hN : X.N.Nodup) (hi : PI X tg iter wi) (ok : BlkOk X.N X.env.scope scope own) (S : GScp scope)
    (hg : ∀ (s : Shared) (H : Hp) (C : Addr) (cl : List (Str × Addr)) (code : Value) (fp : List Addr) (A : Around), Room k A → PG (gen X s H (genEnv scope cl C code builtinsNs X.env) fp A) tg g)
    (ht : ∀ (s : Shared) (H : Hp) (C : Addr) (cl : List (Str × Addr)) (code : Value) (fp : List Addr) (A : Around), Room k A → PTs (gen X s H (genEnv scope cl C code builtinsNs X.env) fp A) ifs tt)
    (he : ∀ (s : Shared) (H : Hp) (C : Addr) (cl : List (Str × Addr)) (code : Value) (fp : List Addr) (A : Around), Room k A → PE (gen X s H (genEnv scope cl C code builtinsNs X.env) fp A) elt te)
    (hs : ∀ v, genFold iter X.env v = pure v)
    (hst : starEach [.GeneratorExp elt [⟨tg, iter, ifs, 0⟩] scope gpos] X.env = (false, eval (.GeneratorExp elt [⟨tg, iter, ifs, 0⟩] scope gpos) X.env) :: starEach [] X.env := by rfl) :
    PE X (.Call (.Name "all" p) [.GeneratorExp elt [⟨tg, iter, ifs, 0⟩] scope gpos] [] pos) (tAllG P wi g tt te (own.map (·.2))) := by
  refine ⟨fun pins s σ H Q I h => ?_⟩
  have hfree : ∀ y ∈ scope.names, y.2 = .free → ∃ c, X.env.cells.lookup y.1 = some c := fun y hy e => by
    rcases ok.free y hy e with k | k
    · exact I.ok.has _ (.inl k)
    · exact I.ok.has _ (.inr k)
  refine wpAny_Call_Name_kw (ld_blt I hgl hm (by decide +kernel : bootBuiltins "all" = some (.builtin "all")) ?_)
  refine PyProof.Rows.callWith_builtin1 ?_ hst (by rfl)
  rw [hst]
  show wpAny _ _ (spliced ((false, eval (.GeneratorExp elt [⟨tg, iter, ifs, 0⟩] scope gpos) X.env) :: backTo pos (starEach [] X.env))) _ _ s
  refine Calls.spliced_cons ?_
  refine wpAny_GeneratorExp_make S.co (closure_ok hfree) S.nc S.dot ok.kind (by have := hr.dp; omega) ?_ hs
  refine thn (hi.run pins s σ H _ I h) fun xv s1 hx => thn hx fun itv s2 h2 => ?_
  obtain ⟨it, fp, tn, J, H2, e, I2, T, st2, f2, ⟨ps, hP, ht0⟩, q⟩ := h2
  subst e
  refine ⟨I2.nolimit, ?_⟩
  have hPs : s2.heap.get? P = some { cls := .none, data := .fields ps } := I2.hok P _ hP
  have cd : PySem.W.CodeHd s2.heap c P := TB.code.keeps fun b u e => I2.bk b u e
  have fpP : ∀ b ∈ fp, b ≠ P := fun b hb z => by
    have := (f2 b hb).1
    rw [z, hP] at this
    cases this
  have sz : ∀ b ∈ fp, b < s2.heap.objs.size := fun b hb => by
    obtain ⟨o, e, _⟩ := T.obj _ _ st2 b hb
    exact Heap.lt_size e
  have cont : ∀ (code : Value) (h3 : Heap) (tk : Nat) (ps' : Array Value), Heap.ExtBut P s2.heap h3 → s2.heap.objs.size ≤ h3.objs.size → h3.get? P = some { cls := .none, data := .fields ps' } → (∃ more, ps' = ps ++ more) → TriplesOk ps'.toList →
      wpAny (model X.prog X.w) X.A (builtinsFor X.env.globals X.env.builtins) (fun bi s₄ =>
        ∀ h', h'.Ns s₄.heap.objs.size (fun y => if y = ".0" then some (.ref it) else none) → Heap.SameBut s₄.heap.objs.size (s₄.heap.push { cls := .type "frame", data := .dict #[] }) h' →
          wpAny (model X.prog X.w) X.A (spliced (backTo pos (starEach [] X.env))) (fun vs s₁ => wpAny (model X.prog X.w) X.A (call (.builtin "all") (.ref h'.objs.size :: vs)) (EP X pins σ Q) X.xe s₁) X.xe { s₄ with
            gens := s₄.gens.push (.fresh (.compStart (.GeneratorExp elt [⟨tg, iter, ifs, 0⟩] scope gpos) 0 (.ref it) .none (genEnv scope (cloFrom X.env.cells scope.names []) s₄.heap.objs.size code bi X.env))),
            toks := s₄.toks + 1 + 1 + 1,
            heap := h'.push { cls := .type "generator", data := .fields #[.int s₄.gens.size 0, .str "<genexpr>" (s₄.toks + 1), .str (X.env.qual ++ "<genexpr>") (s₄.toks + 1 + 1)] } }) X.xe { s2 with heap := h3, toks := tk } := by
    intro code h3 tk ps' hx hsz hP3 hmore ht3
    obtain ⟨more, rfl⟩ := hmore
    obtain ⟨bm, ob, e1, e2, e3, e4, e5, e6, e7, e8⟩ := TB.bm
    have keep3 : ∀ b u, b ≠ P → s2.heap.get? b = some u → h3.get? b = some u := fun b u hb e => hx b u hb e
    refine wpAny_builtinsFor (m := X.mg) (by rw [I2.ok.glob]; exact (I2.mod.glob.keeps I2.bk).extBut hx TB.gP) e1 e2 (keep3 _ _ e4 (I2.bk _ _ e5)) e6 e7 e8 ?_
    generalize hs4 : ({ s2 with heap := h3, toks := tk } : Shared) = s4
    have h4h : s4.heap = h3 := by rw [← hs4]
    have I4 : Inv X pins σ (upd H2 P (.tbl (ps ++ more))) s4 := by
      rw [← hs4]
      exact inv_tab (more := more) (h' := h3) (g' := s2.gens) (d' := s2.drawn) (t' := tk) I2 hP keep3 hP3 I2.bare
    have hT2 : Tabbed P H2 (upd H2 P (.tbl (ps ++ more))) := ⟨⟨_, upd_same, ht3⟩, fun b hb => upd_ne hb⟩
    obtain ⟨W, ⟨m0, w0⟩, turn⟩ := q _ hT2
    generalize hH4 : upd H2 P (.tbl (ps ++ more)) = H4 at I4 w0
    have f4 : ∀ b ∈ fp, FpOk X pins H4 b ∧ b < s4.heap.objs.size := fun b hb => by
      refine ⟨⟨?_, (f2 b hb).2⟩, by rw [h4h]; exact Nat.lt_of_lt_of_le (sz b hb) hsz⟩
      rw [← hH4, upd_ne (fpP b hb)]
      exact (f2 b hb).1
    have st4 : tn 0 s4.heap := T.keep _ _ _ st2 fun b hb o e => by rw [h4h]; exact keep3 b o (fpP b hb) e
    intro h' hn' hs'
    have hsz' : h'.objs.size = s4.heap.objs.size + 1 := by rw [hs'.1, Heap.size_push]
    have keep' : ∀ b o, s4.heap.get? b = some o → h'.get? b = some o := fun b o e => hs'.extBut b o (Nat.ne_of_lt (Heap.lt_size e)) (Heap.get?_push_of_some _ e)
    generalize hoa : ({ cls := .type "generator", data := .fields #[.int s4.gens.size 0, .str "<genexpr>" (s4.toks + 1), .str (X.env.qual ++ "<genexpr>") (s4.toks + 1 + 1)] } : Obj) = oa
    generalize hcenv : genEnv scope (cloFrom X.env.cells scope.names []) s4.heap.objs.size code builtinsNs X.env = cenv
    generalize hs5 : ({ s4 with gens := s4.gens.push (.fresh (.compStart (.GeneratorExp elt [⟨tg, iter, ifs, 0⟩] scope gpos) 0 (.ref it) .none cenv)), toks := s4.toks + 1 + 1 + 1, heap := h'.push oa } : Shared) = s5
    have h5h : s5.heap = h'.push oa := by rw [← hs5]
    have kp5 : ∀ b o, s4.heap.get? b = some o → s5.heap.get? b = some o := fun b o e => by rw [h5h]; exact Heap.get?_push_of_some _ (keep' b o e)
    have ha5 : s5.heap.get? h'.objs.size = some oa := by rw [h5h]; exact Heap.get?_push_size _ (by rw [← hoa]; rfl)
    have g5 : s5.gens[s4.gens.size]? = some (.fresh (.compStart (.GeneratorExp elt [⟨tg, iter, ifs, 0⟩] scope gpos) 0 (.ref it) .none cenv)) := by rw [← hs5]; exact Array.getElem?_push_size ..
    have b5 : AllBare s5.gens := by rw [← hs5]; exact I4.bare.push rfl
    have isg : ∀ h : Heap, h.get? h'.objs.size = some oa → h.IsGen h'.objs.size s4.gens.size := fun h e => by
      rw [← hoa] at e
      exact ⟨_, _, _, e, rfl, rfl, rfl⟩
    refine Calls.spliced_nil ?_
    refine call_function_tree F.kind_all F.plain_all F.entry_all (F.args_all1 _) ?_
    unfold Builtin.«all»
    refine wpAny_bind (m := oneArg "all" _) (wpAny_pure ?_)
    refine wpAny_bind (wpAny_pyIter_gen (isg _ ha5) ?_)
    have back : ∀ s1 s' σ2 H', Inv (gen X s4 H4 cenv fp (X.A.in1.in1.deeper cenv)) [(h'.objs.size, oa)] σ2 H' s1 → Woken s1 s' → Inv X pins σ H' s' := fun s1 s' σ2 H' I1 wk =>
      inv_woken (I4.call' (ch := fp) I1.os I1.base I1.hok I1.bare fun b hb => ⟨(f4 b hb).1.2.2.2.1, (f4 b hb).1.2.1, (f4 b hb).1.2.2.2.2.1, (f4 b hb).1.2.2.2.2.2⟩) wk
    have frm : (X.A.in1.in1.deeper cenv).frames = some (cenv :: X.stack) := Around.frames_deeper I4.ok.frames
    have hrA : Room k (X.A.in1.in1.deeper cenv) := ((((hr.mono (by omega : k + 3 ≤ k + 4)).in1).in1).deeper cenv)
    have I5 : Inv (gen X s4 H4 cenv fp (X.A.in1.in1.deeper cenv)) [] (wipe σ (own.map (·.2))) H4 (s5.setGen s4.gens.size .running) :=
      gen_start (s5 := s5.setGen s4.gens.size .running) I4 ok hN S.nc f4 hcenv.symm frm hrA.hd (by rw [← hs5]; rfl) (allBare_setGen b5 rfl) kp5 (show Heap.Ns s5.heap s4.heap.objs.size _ by rw [h5h]; exact hn'.push _)
    have I6 : Inv (gen X s4 H4 cenv fp (X.A.in1.in1.deeper cenv)) [(h'.objs.size, oa)] (wipe σ (own.map (·.2))) H4 (s5.setGen s4.gens.size .running) := I5.pins_of fun p hp => by
      have ep : p = (h'.objs.size, oa) := List.mem_singleton.mp hp
      subst ep
      have hge : s4.heap.objs.size ≤ h'.objs.size := by omega
      refine ⟨ha5, I4.hok.fresh hge, ?_, fun z => ?_, fun v z => ?_⟩
      · show h'.objs.size ≠ cenv.locals
        rw [← hcenv]
        show h'.objs.size ≠ s4.heap.objs.size
        omega
      · rcases List.mem_cons.mp (I4.stkSub _ z) with z | z
        · have hlt : h'.objs.size < s4.heap.objs.size := by
            rw [show h'.objs.size = X.env.locals from z]
            exact I4.lt
          exact absurd (Nat.lt_of_lt_of_le hlt hge) (Nat.lt_irrefl _)
        · exact I4.nofs hge z
      · rw [← hoa] at z
        cases z
    have hnf : ∀ b ∈ fp, H4 b = none := fun b hb => (f4 b hb).1.1
    have seg := seg_allStart (iter := iter) (scope := scope) (pos := gpos) (A := X.A.in1.in1) (p0 := [(h'.objs.size, oa)]) hc (by rw [← hcenv]; exact S.co) T (fun p hp z => by
        rw [List.mem_singleton.mp hp] at z
        have := (f4 _ z).2
        have hge : s4.heap.objs.size ≤ h'.objs.size := by omega
        exact absurd (Nat.lt_of_lt_of_le this hge) (Nat.lt_irrefl _))
      (by rw [← hcenv]; exact hg s4 H4 _ _ code fp _ (by rw [hcenv]; exact hrA)) (by rw [← hcenv]; exact ht s4 H4 _ _ code fp _ (by rw [hcenv]; exact hrA)) (by rw [← hcenv]; exact he s4 H4 _ _ code fp _ (by rw [hcenv]; exact hrA))
      turn m0 (m0 + 1) (s5.setGen s4.gens.size .running) (s5.setGen s4.gens.size .running) H4 (by omega) I6 (T.keep _ _ _ st4 fun b _ o e => kp5 b o e) hnf w0
    refine wpAny_pure ⟨plainId_quiet F.plain_all_loop _, ?_⟩
    refine all_loop (G := gen X s4 H4 cenv fp (X.A.in1.in1.deeper cenv)) (p0 := [(h'.objs.size, oa)]) (A := X.A) (Qt := fun H => Q (.bl true) H) (Qf := fun H => Q (.bl false) H) hr.hd (by have := hr.dp; omega) (List.mem_singleton.mpr rfl) isg
      (fun s1 s' σ2 H' I1 hq wk => ⟨.bl true, H', back s1 s' σ2 H' I1 wk, rfl, hq⟩) (fun s1 s' σ2 H' I1 hq wk => ⟨.bl false, H', back s1 s' σ2 H' I1 wk, rfl, hq⟩) (m0 + 1) s5 (isg _ ha5) (I4.nolimit.keeps kp5) ⟨_, g5, rfl, seg⟩
  cases hf : codeAmong gpos ps.toList with
  | none =>
    refine wpAny_genexprCodeX hcode (cd.code hPs ht0) (cd.tab hPs) hf fun c' h' tk hx hge hlt hco' _ htab' _ => ?_
    obtain ⟨o1, vs, f1, tf, fl, tg', inF, tx, tt', op, _, _, _, _, _, _, _, _, _, htr, _⟩ := hco'
    exact cont _ h' tk _ hx (Nat.le_trans hge (Nat.le_of_lt hlt)) htab'.2 ⟨_, rfl⟩ htr
  | some cv =>
    refine wpAny_genexprCode_hit hcode (cd.code hPs ht0) hf ?_
    exact cont cv s2.heap s2.toks ps (Heap.ExtBut.refl _ _) (Nat.le_refl _) hPs ⟨#[], by simp⟩ ht0
end
/-! ### a def with its code object; tables -/
theorem okC {P : Program} {w : World} {K : PySem.W.Frag} {mg : Str → Option Value} {base : Heap} {x qual : Str} {params : Arguments} {body : List Stmt} {scope : Scope} {f : Addr} {fd : FuncData} {N ps : List Str} {k : Nat} {sp : Sp} (F : FunD K x qual params body scope [] [] f fd) (S : FnScope N ps scope) (len : ∀ vs H Q E, sp vs H Q E → vs.length = ps.length)
    (hbody : ∀ (A : Around) (outer : List Env) (s : Shared) (H : Hp) (vs : List V) (Q : VK) (E : XK), Room k (A.deeper (envOfC qual scope s.heap.objs.size f fd.code)) → sp vs H Q E →
      ∃ t, PSs (cxOf CX0 P w K mg base N qual scope f fd.code A outer s H E) body t ∧ t { nx := fun _ H' => Q .non H', rt := Q } (start N vs) H) : FnOk P w K mg base CX0 (k + 1) f fd ps sp := by
  obtain ⟨oc, od, dV, kV, doc, pm, an, cdv, ct, osl, rfl, lk, hcd, _, _⟩ := F.ex
  exact fn_of lk hcd S len fun A outer s H vs Q E hr hsp => hbody A outer s H vs Q E hr hsp
theorem tab_get {P b : Addr} {H H' : Hp} {o : HO} (t : Tabbed P H H') (h : H b = some o) (n : ∀ ps, o ≠ .tbl ps) (hP : TabG H P) : H' b = some o := by
  obtain ⟨ps, hp, _⟩ := hP
  rw [t.2 b (ne_of h hp (n ps))]
  exact h
theorem tab_back {P b : Addr} {H H' : Hp} (t : Tabbed P H H') (h : H' b = none) : H b = none := by
  by_cases z : b = P
  · obtain ⟨ps, hp, _⟩ := t.1
    rw [z, hp] at h
    cases h
  · rw [← t.2 b z]
    exact h
theorem tg_same {P : Addr} {H H' : Hp} (h : TabG H P) (e : Same H H') : TabG H' P := by
  obtain ⟨ps, hp, t⟩ := h
  exact ⟨ps, e _ _ hp, t⟩
theorem tg_dr {s P : Addr} {H H' : Hp} (h : TabG H P) (d : Dr s H H') : TabG H' P := by
  obtain ⟨ps, hp, t⟩ := h
  obtain ⟨a, b, c, hs⟩ := d.src0
  exact ⟨ps, d.keep _ _ (ne_of hp hs (by intro z; cases z)) hp, t⟩
theorem tg_tab {P P' : Addr} {H H' : Hp} (h : TabG H P) (t : Tabbed P' H H') : TabG H' P := by
  by_cases z : P = P'
  · rw [z]
    exact t.1
  · obtain ⟨ps, hp, tr⟩ := h
    exact ⟨ps, by rw [t.2 P z]; exact hp, tr⟩
theorem tab_trans {P : Addr} {H H1 H2 : Hp} (a : Tabbed P H H1) (b : Tabbed P H1 H2) : Tabbed P H H2 := ⟨b.1, fun c hc => (b.2 c hc).trans (a.2 c hc)⟩
/-- an element that changes nothing: its truth at each place -/
theorem all_pure {J : It} {g : TG} {te : TE} {vs : List Nat} {σw : L2.St} {H2 : Hp} {Qt Qf : Hp → Prop} (n : Nat) (pr : Nat → Bool) (hgo : ∀ i, i < n → J.go i H2) (hstop : J.stop n H2)
    (hs : ∀ i x H', i < n → J.yld i H2 x H' → ∀ (Q' : VK) (B : Hp → Prop), Q' (.bl (pr i)) H2 → g x σw H' fun σ2 H3 => wipe σ2 vs = σw ∧ tYes σ2 H3 fun b H4 => if b = true then te σ2 H4 Q' else B H4)
    (hT : (∀ i, i < n → pr i = true) → Qt H2) (hF : ∀ i, i < n → pr i = false → Qf H2) : ∃ W : Nat → Nat → Hp → Prop, (∃ m, W 0 m H2) ∧ AllTurns J g tYes te vs σw W Qt Qf := by
  refine ⟨fun i m H => m = n - i ∧ i ≤ n ∧ H2 = H ∧ ∀ j, j < i → pr j = true, ⟨n, rfl, Nat.zero_le _, rfl, fun j h => absurd h (Nat.not_lt_zero _)⟩, ?_⟩
  rintro i m H ⟨rfl, hi, rfl, hp⟩
  by_cases h : i < n
  · refine .inr ⟨hgo i h, fun H' => H2 = H' ∧ pr i = true, fun H' hN => ⟨n - (i + 1), by omega, rfl, h, hN.1, fun j hj => ?_⟩, fun x H' hy => hs i x H' h hy _ _ ⟨pr i, rfl, ?_⟩⟩
    · rcases (show j < i ∨ j = i by omega) with z | z
      · exact hp j z
      · rw [z]
        exact hN.2
    · cases hb : pr i with
      | true => exact ⟨rfl, rfl⟩
      | false => exact hF i h hb
  · have e : i = n := by omega
    subst e
    exact .inl ⟨hstop, hT hp⟩
theorem code_at {K : PySem.W.Frag} {x qual : Str} {params : Arguments} {body : List Stmt} {scope : Scope} {p : Str × Option Str} {fd : FuncData} (F : FunD K x qual params body scope [] [] (He.fAd K p) fd) : fd.code = .ref (He.codeOf K p) := by
  obtain ⟨oc, od, dV, kV, doc, pm, an, cdv, ct, osl, rfl, lk, hcd, _, _⟩ := F.ex
  obtain ⟨c, rfl⟩ := He.codeIn_ref hcd
  rw [He.codeOf_eq lk rfl]
/-! ### list(text) -/
def signsV (z : Str) : List V := z.cps.toList.map fun c => V.str ⟨#[c]⟩
def rListStr : List V → Hp → VK → Prop := fun xs H Q => ∃ z : Str, xs = [.str z] ∧ z.length ≤ sizeLine ∧ ∀ l, H l = none → Q (.ref l) (upd H l (.lst (signsV z)))
theorem call_listStr {X : Cx} (hc : X.calm = true) : CallR X (.type "list") rListStr := by
  intro pins s σ H xs us Q I r h
  obtain ⟨z, rfl, hz, q⟩ := h
  obtain ⟨u, rfl, t, rfl⟩ := vals1 r
  refine call_list_str (I.ok.hd hc) z t (fun h' tk acc' c' hk hS hacc => ?_) (hn := hz)
  refine ⟨.ref s.heap.objs.size, upd H s.heap.objs.size (.lst (signsV z)), I.laid hk (Nat.le_refl _) (show ObjOk X.prog X.w _ _ _ (.lst (signsV z)) from ⟨?_, acc'.toList, c', ?_, ?_⟩), rfl, q _ (I.hok.fresh (Nat.le_refl _))⟩
  · unfold signsV
    rw [List.length_map]
    exact hz
  · have el : acc'.toList.length = acc'.size := by simp
    refine vals_of_at (by unfold signsV; rw [List.length_map, el, hacc.1]; simp) fun j x w h1 h2 => ?_
    obtain ⟨cc, u, hcc, rfl⟩ := hacc.2 j w (by rw [← Array.getElem?_toList]; exact h2)
    unfold signsV at h1
    rw [List.getElem?_map, Array.getElem?_toList, hcc] at h1
    cases h1
    exact ⟨u, rfl⟩
  · rw [Array.toArray_toList]
    exact hS
theorem z_listStr {H : Hp} {Q : VK} {z : Str} (hz : z.length ≤ 1000) (q : ∀ p H', H p = none → Same H H' → H' p = some (.lst (signsV z)) → Q (.ref p) H') : rListStr [.str z] H Q :=
  ⟨z, rfl, Nat.le_of_lt (small1000 hz), fun p hp => q p _ hp (fun b u e => by rw [upd_ne (ne_of_none e hp)]; exact e) upd_same⟩
/-! ### texts -/
def rLeS : R2 := fun x y H Q => ∃ i j, x = .str i ∧ y = .str j ∧ Q (.bl (!decide (j.cps.toList < i.cps.toList))) H
theorem op_leS {X : Cx} : OpR X (compareOp .LtE) rLeS := op_le_str
theorem lt1 (a b : Nat) : decide (([a] : List Nat) < [b]) = decide (a < b) := decide_eq_decide.mpr (by
  constructor
  · intro h
    cases h with
    | rel h => exact h
    | cons h => cases h
  · intro h
    exact List.Lex.rel h)
theorem z_leS {H : Hp} {Q : VK} {c d : Nat} (q : Q (.bl (decide (c ≤ d))) H) : rLeS (.str ⟨#[c]⟩) (.str ⟨#[d]⟩) H Q := ⟨_, _, rfl, rfl, by
  have e : (!decide (([d] : List Nat) < [c])) = decide (c ≤ d) := by
    rw [lt1]
    by_cases h : c ≤ d
    · rw [decide_eq_true h, decide_eq_false (by omega)]
      rfl
    · rw [decide_eq_false h, decide_eq_true (by omega)]
      rfl
  show Q (.bl (!decide (([d] : List Nat) < [c]))) H
  rw [e]
  exact q⟩
theorem z_lenS {K : PySem.W.Frag} {H : Hp} {Q : VK} {z : Str} (hz : z.length ≤ 1000) (q : Q (.int z.length) H) : rLenK K [.str z] H Q := ⟨_, z.length, rfl, ⟨Nat.le_of_lt (small1000 hz), rfl⟩, q⟩
def smB (c : Nat) : Bool := decide (97 ≤ c) && decide (c ≤ 122)
def nmB (z : Str) : Bool := decide (1 ≤ z.length) && (decide (z.length ≤ 8) && z.cps.toList.all smB)
/-- what is no whole number -/
inductive NIv (H : Hp) : V → Prop
  | bl (b : Bool) : NIv H (.bl b)
  | non : NIv H .non
  | str (z : Str) : NIv H (.str z)
  | lst {l : Addr} {xs : List V} : H l = some (.lst xs) → NIv H (.ref l)
  | tup {l : Addr} {xs : List V} : H l = some (.tup xs) → NIv H (.ref l)
  | dct {l : Addr} {kvs : List (Key × V)} : H l = some (.dK kvs) → NIv H (.ref l)
theorem NIv.same {H H' : Hp} {v : V} (h : NIv H v) (e : Same H H') : NIv H' v := by
  cases h with
  | bl b => exact .bl b
  | non => exact .non
  | str z => exact .str z
  | lst h => exact .lst (e _ _ h)
  | tup h => exact .tup (e _ _ h)
  | dct h => exact .dct (e _ _ h)
theorem NIv.tab {P : Addr} {H H' : Hp} {v : V} (h : NIv H v) (e : Tabbed P H H') (hP : TabG H P) : NIv H' v := by
  cases h with
  | bl b => exact .bl b
  | non => exact .non
  | str z => exact .str z
  | lst h => exact .lst (tab_get e h (fun _ z => by cases z) hP)
  | tup h => exact .tup (tab_get e h (fun _ z => by cases z) hP)
  | dct h => exact .dct (tab_get e h (fun _ z => by cases z) hP)
/-- the name of a thing's type, for what is no whole number -/
theorem NIv.ty {K : PySem.W.Frag} {H : Hp} {v : V} (h : NIv H v) : ∃ (n : String) (a b : Bool), TyX K H v (.type n) ∧ kitB n "int" = some a ∧ kitB n "bool" = some b ∧ (a && !b) = false := by
  cases h with
  | bl b => exact ⟨"bool", true, true, .base (.bl b), by decide +kernel, by decide +kernel, rfl⟩
  | non => exact ⟨"NoneType", false, false, .base .non, by decide +kernel, by decide +kernel, rfl⟩
  | str z => exact ⟨"str", false, false, .base (.str z), by decide +kernel, by decide +kernel, rfl⟩
  | lst h => exact ⟨"list", false, false, .base (.lst h), by decide +kernel, by decide +kernel, rfl⟩
  | tup h => exact ⟨"tuple", false, false, .base (.tup h), by decide +kernel, by decide +kernel, rfl⟩
  | dct h => exact ⟨"dict", false, false, .base (.dK h), by decide +kernel, by decide +kernel, rfl⟩
def inFar (n : Int) : Bool := decide (-1000000000000 ≤ n) && decide (n ≤ 1000000000000)
/-- a number within the bounds, or not -/
def OwnV (H : Hp) (x : V) (k : Bool) : Prop := (∃ n, x = .int n ∧ k = inFar n) ∨ (k = false ∧ NIv H x)
theorem OwnV.tab {P : Addr} {H H' : Hp} {v : V} {k : Bool} (h : OwnV H v k) (e : Tabbed P H H') (hP : TabG H P) : OwnV H' v k := by
  rcases h with h | ⟨h1, h2⟩
  · exact .inl h
  · exact .inr ⟨h1, h2.tab e hP⟩
theorem joinS_len : ∀ ys : List Str, (∀ y ∈ ys, y.length ≤ 1) → (Str.join "" ys).length ≤ ys.length
  | [], _ => Nat.le_refl _
  | [y], h => h y (by simp)
  | x :: z :: r, h => by
    have ih := joinS_len (z :: r) fun y hy => h y (List.mem_cons_of_mem _ hy)
    show (x ++ "" ++ Str.join "" (z :: r)).length ≤ _
    rw [Str.length_append, Str.length_append]
    have h1 := h x (by simp)
    have h0 : ("" : Str).length = 0 := rfl
    simp only [List.length_cons] at ih ⊢
    omega
theorem join_len {ys : List Str} (h : ∀ y ∈ ys, y.length ≤ 1) : (Txt.join "" ys).length ≤ ys.length := by
  rw [TL.join_eq]
  exact joinS_len ys h
theorem cutS_len (z : Str) (lo hi : Option Int) : (cutS z lo hi).length ≤ z.length := by
  unfold cutS
  show (List.toArray _).size ≤ _
  rw [List.size_toArray, List.length_take, List.length_drop]
  have : z.cps.toList.length = z.length := by simp [Str.length]
  omega
theorem sum_ones : ∀ {ys : List Str}, (∀ y ∈ ys, y.length ≤ 1) → (ys.map (·.length)).sum ≤ ys.length
  | [], _ => Nat.le_refl _
  | y :: r, h => by
    have ih := sum_ones (ys := r) fun z hz => h z (List.mem_cons_of_mem _ hz)
    have h1 := h y (by simp)
    simp only [List.map_cons, List.sum_cons, List.length_cons]
    omega
theorem z_cutS {H : Hp} {Q : VK} {z : Str} {lo hi : Option Int} (hz : z.length ≤ 1000) (q : Q (.str (cutS z lo hi)) H) : rSlS (.str z) lo hi H Q := ⟨z, rfl, Nat.le_of_lt (small1000 hz), q⟩
/-! ### lists of ints as data -/
theorem dpInts {K : PySem.W.Frag} {H : Hp} : ∀ ns : List Int, DpAll K H (ns.map V.int) (ns.map PyData.int)
  | [] => .nil
  | n :: r => .cons (.int n) (dpInts r)
theorem eqv_nil (ns : List Int) : PyData.eqv (.list (ns.map PyData.int)) (.list []) = ns.isEmpty := by
  cases ns with
  | nil => rfl
  | cons n r => simp [PyData.eqv, PyData.eqvAll]
theorem sh_ints {ns : List Int} (h : ns.length ≤ 4) : SeqAt.shaped (.list (ns.map PyData.int)) = true := by
  rcases ns with _ | ⟨a, _ | ⟨b, _ | ⟨c, _ | ⟨d, _ | ⟨e, r⟩⟩⟩⟩⟩
  · rfl
  · rfl
  · rfl
  · rfl
  · rfl
  · simp at h
theorem NIv.dr {s : Addr} {H H' : Hp} {v : V} (h : NIv H v) (d : Dr s H H') (n : v ≠ .ref s) : NIv H' v := by
  cases h with
  | bl b => exact .bl b
  | non => exact .non
  | str z => exact .str z
  | lst h => exact .lst (d.keep _ _ (fun z => n (by rw [z])) h)
  | tup h => exact .tup (d.keep _ _ (fun z => n (by rw [z])) h)
  | dct h => exact .dct (d.keep _ _ (fun z => n (by rw [z])) h)
theorem z_tupleL {K : PySem.W.Frag} {H : Hp} {Q : VK} {p : Addr} {xs : List V} (h : H p = some (.lst xs)) (q : ∀ p' H', H p' = none → Same H H' → H' p' = some (.tup xs) → Q (.ref p') H') : rTupleK K [.ref p] H Q :=
  ⟨p, xs, rfl, .inl ⟨SqL.of h, fun p' hp => q p' _ hp (fun b u e => by rw [upd_ne (ne_of_none e hp)]; exact e) upd_same⟩⟩
/-- everything but tables is kept -/
def Kp (H H' : Hp) : Prop := ∀ b o, (∀ ps, o ≠ .tbl ps) → H b = some o → H' b = some o
theorem Kp.of_same {H H' : Hp} (e : Same H H') : Kp H H' := fun b o _ h => e b o h
theorem Kp.of_tab {P : Addr} {H H' : Hp} (e : Tabbed P H H') (hP : TabG H P) : Kp H H' := fun b o n h => tab_get e h n hP
theorem Kp.trans {H H1 H2 : Hp} (a : Kp H H1) (b : Kp H1 H2) : Kp H H2 := fun c o n h => b c o n (a c o n h)
theorem Kp.refl (H : Hp) : Kp H H := fun _ _ _ h => h
theorem Kp.tup {H H' : Hp} {b : Addr} {xs : List V} (a : Kp H H') (h : H b = some (.tup xs)) : H' b = some (.tup xs) := a _ _ (fun _ z => by cases z) h
theorem Kp.lst {H H' : Hp} {b : Addr} {xs : List V} (a : Kp H H') (h : H b = some (.lst xs)) : H' b = some (.lst xs) := a _ _ (fun _ z => by cases z) h
theorem Kp.dct {H H' : Hp} {b : Addr} {xs : List (Key × V)} (a : Kp H H') (h : H b = some (.dK xs)) : H' b = some (.dK xs) := a _ _ (fun _ z => by cases z) h
theorem Src.kp {H H' : Hp} {s : Addr} (h : Src H s) (a : Kp H H') : Src H' s := by
  obtain ⟨x, y, z, h⟩ := h
  exact ⟨x, y, z, a.lst h⟩
theorem NIv.kp {H H' : Hp} {v : V} (h : NIv H v) (a : Kp H H') : NIv H' v := by
  cases h with
  | bl b => exact .bl b
  | non => exact .non
  | str z => exact .str z
  | lst h => exact .lst (a.lst h)
  | tup h => exact .tup (a.tup h)
  | dct h => exact .dct (a.dct h)
theorem OwnV.kp {H H' : Hp} {v : V} {k : Bool} (h : OwnV H v k) (a : Kp H H') : OwnV H' v k := by
  rcases h with h | ⟨h1, h2⟩
  · exact .inl h
  · exact .inr ⟨h1, h2.kp a⟩
theorem z_disp1 {σ : L2.St} {H : Hp} {Q : VK} {ta tb : TE} {k : Key} {v : V} (ha : ∀ (H' : Hp) (Q' : VK), Q' (kV k) H' → ta σ H' Q') (hb : ∀ (H' : Hp) (Q' : VK), Q' v H' → tb σ H' Q')
    (q : ∀ p H' kvs, H p = none → Same H H' → H' p = some (.dK kvs) → Q (.ref p) H') : tDisp [(ta, tb)] σ H Q := fun p hp => by
  refine ha _ _ (hb _ _ ⟨upd_same, [(k, v)], rfl, by simp, q p _ _ hp (fun b u e => ?_) upd_same⟩)
  have n := ne_of_none e hp
  rw [upd_ne n, upd_ne n]
  exact e
end Zk
set_option Elab.async false
set_option linter.all false
set_option maxRecDepth 100000
set_option maxHeartbeats 2000000
/-! tuple(.. for .. in ..): the list that gathers the items is tracked, as in a list comprehension. -/
namespace Zk
open PySem PySem.Spec PyProof.Rows L2 GenW GxR
section
variable {X : Cx} {pins : List (Addr × Obj)} {σ : L2.St} {H : Hp} {s : Shared}
/-- an item was put behind the list at S -/
def Pushed (G : Cx) (S : Addr) (xs : List V) (y : V) (s s'' : Shared) : Prop := ∀ pins σ H, Inv G pins σ H s → H S = some (.lst xs) → Inv G pins σ (upd H S (.lst (xs ++ [y]))) s''
def YTup (G : Cx) (p0 : List (Addr × Obj)) (S : Addr) : Protocol := fun _ _ v s kap =>
  ∃ (σ2 : L2.St) (H : Hp) (xs : List V) (y : V), RelV y v ∧ Inv G p0 σ2 H s ∧ H S = some (.lst xs) ∧ xs.length < sizeLine ∧ ∀ s'', Pushed G S xs y s s'' → kap (.send .none) s''
def FTup (G : Cx) (p0 : List (Addr × Obj)) (Qe : Hp → Prop) : Nat → Shared → Shared → Prop := fun _ _ s => ∃ (σ2 : L2.St) (H : Hp), Inv G p0 σ2 H s ∧ Qe H
def RTup (G : Cx) (p0 : List (Addr × Obj)) (Qe : Hp → Prop) : GenEnd := fun n s₀ r s₁ => ((r = .ok (.ret .none) ∨ r = .ok .next) ∧ FTup G p0 Qe n s₀ s₁) ∨ ∃ e, r = .error e ∧ (fun (_ : Value) (_ : Shared) => False) e s₁
/-- what the loop's turns ask -/
def TupTurns (J : It) (g : TG) (tt : TT) (te : TE) (vs : List Nat) (σw : L2.St) (S : Addr) (W : Nat → Nat → Hp → Prop) (Qe : Hp → Prop) : Prop :=
  ∀ i m H, W i m H → (J.stop i H ∧ Qe H) ∨ (J.go i H ∧ ∃ Nx : Hp → Prop, (∀ H', Nx H' → ∃ m', m' < m ∧ W (i + 1) m' H') ∧ ∀ x H', J.yld i H x H' → g x σw H' fun σ2 H2 => wipe σ2 vs = σw ∧ tt σ2 H2 fun b H3 =>
    if b = true then te σ2 H3 fun y H4 => ∃ xs, H4 S = some (.lst xs) ∧ xs.length < sizeLine ∧ Nx (upd H4 S (.lst (xs ++ [y]))) else Nx H3)
theorem seg_tup {elt tg iter : Expr} {ifs : List Expr} {scope : Scope} {pos : Pos} {it S : Addr} {fp : List Addr} {tn : Nat → Heap → Prop} {J : It} {W : Nat → Nat → Hp → Prop} {σw : L2.St} {vs : List Nat} {A : Around} {cenv : Env} {s3 : Shared} {H3 : Hp} {p0 : List (Addr × Obj)} {Qe : Hp → Prop} {g : TG} {tt : TT} {te : TE}
    (hc : X.calm = true) (hco : cenv.scope.isCoroutine = false) (T : Turn X.prog X.w X.K tg J fp it tn) (hp0 : ∀ p ∈ p0, p.1 ∉ fp)
    (pg : PG (gen X s3 H3 cenv fp (A.deeper cenv)) tg g) (pt : PTs (gen X s3 H3 cenv fp (A.deeper cenv)) ifs tt) (pe : PE (gen X s3 H3 cenv fp (A.deeper cenv)) elt te) (turn : TupTurns J g tt te vs σw S W Qe) :
    ∀ (m i n : Nat) (s₀ s : Shared) (H : Hp), m < n → Inv (gen X s3 H3 cenv fp (A.deeper cenv)) p0 σw H s → tn i s.heap → (∀ b ∈ fp, H b = none) → W i m H →
      Seg (model X.prog X.w) A (RTup (gen X s3 H3 cenv fp (A.deeper cenv)) p0 Qe) (YTup (gen X s3 H3 cenv fp (A.deeper cenv)) p0 S) n s₀ (.compLoop (.GeneratorExp elt [⟨tg, iter, ifs, 0⟩] scope pos) 0 (.ref it) .none cenv)
        ((model X.prog X.w).den (.compLoop (.GeneratorExp elt [⟨tg, iter, ifs, 0⟩] scope pos) 0 (.ref it) .none cenv)) [] s := by
  have ov : A.over (.compLoop (.GeneratorExp elt [⟨tg, iter, ifs, 0⟩] scope pos) 0 (.ref it) .none cenv) [] = A.deeper cenv := over_comp ⟨_, _, _, _, rfl⟩
  have stat : ∀ {σ' : L2.St} {H' : Hp} {s' : Shared}, Inv (gen X s3 H3 cenv fp (A.deeper cenv)) p0 σ' H' s' → (∀ b ∈ fp, H' b = none) → ∀ b ∈ fp, FpOk (gen X s3 H3 cenv fp (A.deeper cenv)) p0 H' b := fun {σ' H' s'} I' hn b hb =>
    ⟨hn b hb, (I'.ok.exf b hb).1, I'.ok.exfs b hb, .inl hb, fun x c e => (I'.ok.exf b hb).2 x c e, fun p hp z => by
      rcases List.mem_append.mp hp with hp | hp
      · cases hp
      · exact hp0 p hp (z ▸ hb)⟩
  intro m
  induction m using Nat.strongRecOn with
  | ind m ih =>
    intro i n s₀ s H hmn I st nf w
    obtain ⟨n, rfl⟩ : ∃ k, n = k + 1 := ⟨n - 1, by omega⟩
    show Seg _ A _ _ _ s₀ _ ((compTurn (.GeneratorExp elt [⟨tg, iter, ifs, 0⟩] scope pos) 0 (.ref it) .none cenv).onRaise (leaving cenv)) [] s
    rw [compTurn_gen, Sem.onRaise_eq_wrap]
    refine seg_bind_wrap (wpAny_standAt ?_)
    rcases turn i m H w with ⟨stop, qq⟩ | ⟨go, Nx, hNx, step⟩
    · have td := T.done (gen X s3 H3 cenv fp (A.deeper cenv)) rfl rfl rfl hc i p0 s _ H (fun _ _ => False) I (stat I nf) st stop
      refine seg_bind_wrap ?_
      rw [ov]
      refine thnF td fun r s6 ⟨hr, I6⟩ => ?_
      subst hr
      exact seg_end (.ok .next) (.inl ⟨.inr rfl, _, _, I6, qq⟩)
    · have ti := T.item (gen X s3 H3 cenv fp (A.deeper cenv)) rfl rfl rfl hc i p0 s _ H (fun _ _ => False) I (stat I nf) st go
      refine seg_bind_wrap ?_
      rw [ov]
      refine thnF ti fun r s6 ⟨u, hr, h6⟩ => ?_
      subst hr
      refine seg_bind_wrap ?_
      rw [ov]
      refine thnF h6 fun _ s7 ⟨x, H7, I7, r7, y7, st7, n7⟩ => ?_
      have I7' := I7.pinned (stat I7 n7) (T.obj _ _ st7)
      refine seg_bind_wrap ?_
      rw [ov]
      refine thnF (pg.run _ s7 _ H7 x u _ I7' r7 (step x H7 y7)) fun _ s8 ⟨σ8, H8, I8, hw8, q8⟩ => ?_
      refine seg_bind_wrap ?_
      rw [ov]
      refine thnF (pt.run _ s8 σ8 H8 _ I8 q8) fun b s9 ⟨H9, I9, q9⟩ => ?_
      have fin : ∀ {s' : Shared} {H' : Hp} {n' : Nat} {s0' : Shared}, Inv (gen X s3 H3 cenv fp (A.deeper cenv)) (p0 ++ pinsAt fp s7.heap) σ8 H' s' → Nx H' → m ≤ n' →
          Seg (model X.prog X.w) A (RTup (gen X s3 H3 cenv fp (A.deeper cenv)) p0 Qe) (YTup (gen X s3 H3 cenv fp (A.deeper cenv)) p0 S) n' s0' (.compLoop (.GeneratorExp elt [⟨tg, iter, ifs, 0⟩] scope pos) 0 (.ref it) .none cenv)
            ((model X.prog X.w).den (.compLoop (.GeneratorExp elt [⟨tg, iter, ifs, 0⟩] scope pos) 0 (.ref it) .none cenv)) [] s' := fun {s' H' n' s0'} I' nx hn' => by
        obtain ⟨m', hm, w'⟩ := hNx H' nx
        have pin' : ∀ b ∈ fp, ∀ o, s7.heap.get? b = some o → s'.heap.get? b = some o ∧ H' b = none := fun b hb o e =>
          let z := I'.pin (b, o) (List.mem_append_right _ (List.mem_append_right _ (mem_pinsAt hb e)))
          ⟨z.1, z.2.1⟩
        have hl : σw.length = σ8.length := by rw [← hw8, wipe_length]
        refine ih m' hm (i + 1) n' s0' s' H' (by omega) ((I'.unpinned (pins := p0)).weak hl (fun j v e => ?_)) (T.keep _ _ _ st7 fun b hb o e => (pin' b hb o e).1) (fun b hb => ?_) w'
        · rw [← hw8] at e
          exact (wipe_some e).1
        · obtain ⟨o, e, _⟩ := T.obj _ _ st7 b hb
          exact (pin' b hb o e).2
      cases b with
      | false =>
        simp only [Bool.false_eq_true, if_false] at q9 ⊢
        exact seg_again rfl (fin I9 q9 (by omega))
      | true =>
        simp only [if_true] at q9 ⊢
        have hy : ∀ v, yieldOut cenv v = yieldValue v := fun v => by simp only [yieldOut, hco, Bool.false_eq_true, if_false]
        simp only [hy]
        rw [Sem.bind_eq_wrap', Sem.bind_eq_wrap', Sem.wrap_wrap, Sem.wrap_wrap]
        refine seg_wrap ?_
        rw [ov]
        refine thnF (pe.run _ s9 σ8 H9 _ I9 q9) fun z s10 ⟨yv, H10, I10, r10, xs, hxs, hlt, nx⟩ => ?_
        refine seg_at (seg_yield rfl rfl rfl ⟨σ8, H10, xs, yv, r10, I10.unpinned, hxs, hlt, fun s'' wk => ?_⟩)
        exact seg_again rfl (fin (wk _ _ _ I10 hxs) nx (by omega))
theorem seg_tupStart {elt tg iter : Expr} {ifs : List Expr} {scope : Scope} {pos : Pos} {it S : Addr} {fp : List Addr} {tn : Nat → Heap → Prop} {J : It} {W : Nat → Nat → Hp → Prop} {σw : L2.St} {vs : List Nat} {A : Around} {cenv : Env} {s3 : Shared} {H3 : Hp} {p0 : List (Addr × Obj)} {Qe : Hp → Prop} {g : TG} {tt : TT} {te : TE}
    (hc : X.calm = true) (hco : cenv.scope.isCoroutine = false) (T : Turn X.prog X.w X.K tg J fp it tn) (hp0 : ∀ p ∈ p0, p.1 ∉ fp)
    (pg : PG (gen X s3 H3 cenv fp (A.deeper cenv)) tg g) (pt : PTs (gen X s3 H3 cenv fp (A.deeper cenv)) ifs tt) (pe : PE (gen X s3 H3 cenv fp (A.deeper cenv)) elt te) (turn : TupTurns J g tt te vs σw S W Qe)
    (m n : Nat) (s₀ s : Shared) (H : Hp) (hmn : m < n) (I : Inv (gen X s3 H3 cenv fp (A.deeper cenv)) p0 σw H s) (st : tn 0 s.heap) (nf : ∀ b ∈ fp, H b = none) (w : W 0 m H) :
      Seg (model X.prog X.w) A (RTup (gen X s3 H3 cenv fp (A.deeper cenv)) p0 Qe) (YTup (gen X s3 H3 cenv fp (A.deeper cenv)) p0 S) n s₀ (.compStart (.GeneratorExp elt [⟨tg, iter, ifs, 0⟩] scope pos) 0 (.ref it) .none cenv)
        ((model X.prog X.w).den (.compStart (.GeneratorExp elt [⟨tg, iter, ifs, 0⟩] scope pos) 0 (.ref it) .none cenv)) [] s := by
  have loop := fun s₀ => seg_tup (iter := iter) (scope := scope) (pos := pos) hc hco T hp0 pg pt pe turn m 0 n s₀ s H hmn I st nf w
  show Seg _ A _ _ _ s₀ _ ((compStart (.GeneratorExp elt [⟨tg, iter, ifs, 0⟩] scope pos) 0 (.ref it) .none cenv).onRaise (leaving cenv)) [] s
  unfold compStart
  rw [Sem.onRaise_eq_wrap]
  show Seg _ A _ _ _ s₀ _ ((ask >>= _).wrap _ _ _ _) [] s
  refine seg_bind_wrap (wpAny_askSetting ?_)
  split
  · exact seg_again rfl (loop s₀)
  · first
      | exact seg_bind_wrap (wpAny_rule (seg_bind_wrap (wpAny_standAt (seg_bind_wrap (T.self _ 0 s _ _ st (seg_again rfl (loop s₀)))))))
      | (refine seg_bind_wrap (wpAny_rule ?_); show Seg _ A _ _ _ s₀ _ ((standAt iter.pos >>= _).wrap _ _ _ _) [] s; exact seg_bind_wrap (wpAny_standAt (seg_bind_wrap (T.self _ 0 s _ _ st (seg_again rfl (loop s₀))))))
theorem mapSeq_push (its : List Value) (n : Nat) (u : Value) : ∃ n', Obj.mapSeq (·.push u) { cls := .type "list", data := .seq its.toArray n } = { cls := .type "list", data := .seq (its ++ [u]).toArray n' } := by
  rw [show (its ++ [u]).toArray = its.toArray.push u by simp]
  exact ⟨_, rfl⟩
theorem collect_mono {M : Model} {A : Around} {v : Value} {Q Q' : List Value → Shared → Prop} {E E' : Value → Shared → Prop} {s : Shared} (h : wpAny M A (collect v) Q E s) (hE : ∀ e s', E e s' → E' e s') (hq : ∀ xs s', Q xs s' → Q' xs s') : wpAny M A (collect v) Q' E' s := wpAny_mono h hq hE
/-- the loop that gathers -/
theorem tup_loop {G : Cx} {p0 : List (Addr × Obj)} {Qe : Hp → Prop} {A : Around} {R : Result → Shared → Prop} {a S : Addr} {g : Nat} {oa : Obj} {res : Value} (hh : A.handled = none) (hd : A.depth < recursionLimit)
    (hpa : (a, oa) ∈ p0) (hga : ∀ h : Heap, h.get? a = some oa → h.IsGen a g)
    (hT : ∀ s1 s' σ2 H, Inv G p0 σ2 H s1 → Qe H → Woken s1 s' → R (.ok (.ret res)) s') :
    ∀ (n : Nat) (s : Shared), s.heap.IsGen a g → s.heap.NoLimit →
      (∃ gs, s.gens[g]? = some gs ∧ gs.Goes (model G.prog G.w) A.in1.in1 (RTup G p0 Qe) (YTup G p0 S) n (.send .none) (s.setGen g .running)) →
      codeAny (model G.prog G.w) A (.builtin "list.extend.loop" ⟨[.ref S, .ref a, res], []⟩) R s := by
  have upd1 : ∀ {s₁ s'' : Shared} {σ2 : L2.St} {H : Hp} {xs : List V} {y : V} {v : Value} {its : List Value} {nn : Nat}, Inv G p0 σ2 H s₁ → RelV y v → Vals xs its → s₁.heap.get? S = some { cls := .type "list", data := .seq its.toArray nn } → xs.length < sizeLine →
      s''.heap = s₁.heap.update S (Obj.mapSeq (·.push v)) → s''.os = s₁.os → AllBare s''.gens → Pushed G S xs y s₁ s'' := fun {s₁ s'' σ2 H xs y v its nn} _ ry r ho hlt e1 e2 e3 pins σ H0 I0 h0 => by
    obtain ⟨n', hf⟩ := mapSeq_push its nn v
    exact inv_woken (I0.lstUpd h0 ho hf (r.append (.cons ry .nil)) (by rw [List.length_append]; exact hlt) s₁.toks) ⟨e2, e3, fun b o e => by rw [e1]; exact e⟩
  intro n
  induction n with
  | zero =>
    intro s hg hl ⟨gs, hgs, hgo⟩
    refine codeAny_builtin F.entry_extend_loop ?_
    rw [Around.under_plainId F.plain_extend_loop _]
    show wpAny _ A.in1 (pyNext (.ref a) >>= _) _ _ s
    refine wpAny_bind (next_genG (A := A.in1) (F := FTup G p0 Qe) (Er := fun _ _ => False) hh hl hd hg hgs hgo (fun v s₁ gs' hbare hv => ?_) (fun s₁ hp h' hk => ?_) fun e s₁ he => he.elim)
    · obtain ⟨σ2, H, xs, y, ry, I, hS, hlt, hk⟩ := hv
      obtain ⟨its, nn, r, ho, hz⟩ := I.lst hS
      exact False.elim (hk { s₁ with heap := s₁.heap.update S (Obj.mapSeq (·.push v)) } (upd1 I ry r ho hlt rfl rfl I.bare))
    · obtain ⟨σ2, H, I, hq⟩ := hp
      exact wpAny_pure (hT s₁ _ σ2 H I hq ⟨rfl, allBare_setGen I.bare rfl, hk⟩)
  | succ n ih =>
    intro s hg hl ⟨gs, hgs, hgo⟩
    have hgl : g < s.gens.size := (Array.getElem?_eq_some_iff.mp hgs).1
    refine codeAny_builtin F.entry_extend_loop ?_
    rw [Around.under_plainId F.plain_extend_loop _]
    show wpAny _ A.in1 (pyNext (.ref a) >>= _) _ _ s
    refine wpAny_bind (wpAny_gsz (n := g + 1) hgl (next_genG (A := A.in1) (F := FTup G p0 Qe) (Er := fun _ _ => False) hh hl hd hg hgs hgo (fun v s₁ gs' hbare hv => ?_) (fun s₁ hp h' hk => ?_) fun e s₁ he => he.elim))
    · intro hsz
      obtain ⟨σ2, H, xs, y, ry, I, hS, hlt, hk⟩ := hv
      obtain ⟨its, nn, r, ho, hz⟩ := I.lst hS
      have hsz1 : g < s₁.gens.size := by
        have q : (s₁.setGen g gs').gens.size = s₁.gens.size := setGen_size _ _ _
        have hsz' : g + 1 ≤ (s₁.setGen g gs').gens.size := hsz
        omega
      have hlen := r.length
      have I1 : Inv G p0 σ2 (upd H S (.lst (xs ++ [y]))) { s₁ with heap := s₁.heap.update S (Obj.mapSeq (·.push v)) } := upd1 (s'' := { s₁ with heap := s₁.heap.update S (Obj.mapSeq (·.push v)) }) I ry r ho hlt rfl rfl I.bare _ _ _ I hS
      show wpAny _ A.in1 (updateSeq S (·.push v) >>= _) _ _ _
      refine wpAny_bind ?_
      refine wpAny_updateSeq (s := s₁.setGen g gs') ho rfl (wpAny_pure ⟨plainId_quiet F.plain_extend_loop _, ?_⟩) (by simp only [List.size_toArray]; omega) (by show (its.toArray.push v).size ≤ sizeLine + 1; rw [Array.size_push, List.size_toArray]; omega)
      refine ih { s₁.setGen g gs' with heap := s₁.heap.update S (Obj.mapSeq (·.push v)) } (hga _ (I1.pin (a, oa) (List.mem_append_right _ hpa)).1) I1.nolimit ⟨gs', setGen_at hsz1, hk _ (upd1 I ry r ho hlt rfl rfl (allBare_setGen (s := { s₁.setGen g gs' with heap := _ }) (allBare_setGen I.bare hbare) rfl))⟩
    · intro hsz
      obtain ⟨σ2, H, I, hq⟩ := hp
      exact wpAny_pure (hT s₁ _ σ2 H I hq ⟨rfl, allBare_setGen I.bare rfl, hk⟩)
/-- collect of such a generator -/
theorem collect_genX {G : Cx} {p0 : List (Addr × Obj)} {Qe : Hp → Prop} {A : Around} {Q : List Value → Shared → Prop} {E : Value → Shared → Prop} {a : Addr} {g : Nat} {oa : Obj} {s : Shared} (hh : A.handled = none) (hd : A.depth < recursionLimit)
    (hpa : (a, oa) ∈ p0) (hga : ∀ h : Heap, h.get? a = some oa → h.IsGen a g) (ha : s.heap.get? a = some oa) (hl : s.heap.NoLimit)
    (go : ∀ (h' : Heap) (c : Nat), (∀ b o, s.heap.get? b = some o → h'.get? b = some o) → h'.get? s.heap.objs.size = some { cls := .type "list", data := .seq ([] : List Value).toArray c } →
      ∃ gs n, s.gens[g]? = some gs ∧ gs.Goes (model G.prog G.w) A.in1.in1 (RTup G p0 Qe) (YTup G p0 s.heap.objs.size) n (.send .none) (({ s with heap := h' } : Shared).setGen g .running))
    (hQ : ∀ s1 s' σ2 H, Inv G p0 σ2 H s1 → Qe H → Woken s1 s' → ∃ its n, s'.heap.get? s.heap.objs.size = some { cls := .type "list", data := .seq (its : List Value).toArray n } ∧ Q its s') :
    wpAny (model G.prog G.w) A (collect (.ref a)) Q E s := by
  have hSa : s.heap.objs.size ≠ a := Nat.ne_of_gt (Heap.lt_size ha)
  unfold collect
  refine wpAny_bind (wpAny_runValue (codeAny_builtin F.entry_proto_collect ?_))
  rw [Around.under_plainId F.plain_proto_collect _]
  show wpAny _ A.in1 (newList [] >>= fun l => again (.builtin "list.__iadd__" ⟨[l, .ref a], []⟩)) _ _ s
  refine wpAny_bind (wpAny_newObj_type ?_)
  refine wpAny_pure ⟨plainId_quiet F.plain_list_iadd _, codeAny_builtin F.entry_list_iadd ?_⟩
  rw [Around.under_plainId F.plain_list_iadd _]
  have k1 : ∀ b o, s.heap.get? b = some o → (s.heap.push { cls := .type "list", data := .seq ([] : List Value).toArray }).get? b = some o := fun b o e => Heap.get?_push_of_some _ e
  have gty : ∀ {h : Heap}, (∀ b o, s.heap.get? b = some o → h.get? b = some o) → h.IsGen a g := fun {h} q => hga h (q _ _ ha)
  show wpAny _ A.in1 (Builtin.List.listExtendWith (.ref s.heap.objs.size) (.ref a) (.ref s.heap.objs.size)) _ _ _
  unfold Builtin.List.listExtendWith
  refine wpAny_bind (wpAny_typeOf (Heap.IsGen.typeIs (s := { s with heap := _ }) (gty k1)) ?_)
  have h1 : Builtin.List.listSameRef (.ref s.heap.objs.size) (.ref a) = false := by simp [Builtin.List.listSameRef, hSa]
  have h2 : (Value.type "generator" == Value.type "list") = false := by decide
  have h3 : (Value.type "generator" == Value.type "tuple") = false := by decide
  simp only [h1, h2, h3, Bool.or_false, Bool.false_eq_true, if_false]
  refine wpAny_bind (wpAny_pyIter_gen (s := { s with heap := _ }) (gty k1) ?_)
  refine wpAny_bind (wpAny_holding ?_)
  unfold Builtin.List.listLengthHint
  refine wpAny_bind (wpAny_specialOf (Heap.IsGen.typeIs (s := { s with heap := _ }) (gty k1)) F.gen_no_len ?_)
  show wpAny _ A.in1 (specialOf (Value.ref a) (Str.ofString "__length_hint__") >>= _) _ _ _
  refine wpAny_bind (wpAny_specialOf (Heap.IsGen.typeIs (s := { s with heap := _ }) (gty k1)) F.gen_no_hint ?_)
  refine wpAny_pure ?_
  show wpAny _ A.in1 (rule "list.extend.makes-room" >>= fun _ => Builtin.List.listTouch (.ref s.heap.objs.size) >>= fun _ =>
    again (.builtin "list.extend.loop" ⟨[.ref s.heap.objs.size, .ref a, .ref s.heap.objs.size], []⟩)) _ _ _
  refine wpAny_bind (wpAny_rule ?_)
  have hS₁ : (s.heap.push { cls := .type "list", data := .seq ([] : List Value).toArray }).get? s.heap.objs.size = some { cls := .type "list", data := .seq ([] : List Value).toArray } := Heap.get?_push_size _ rfl
  refine wpAny_bind ?_
  show wpAny _ A.in1 (updateSeq s.heap.objs.size (·.push .none) >>= fun _ => updateSeq s.heap.objs.size (·.pop)) _ _ _
  refine wpAny_bind (wpAny_updateSeq hS₁ rfl ?_)
  have hS₂ := Heap.get?_update_self (Obj.mapSeq (·.push Value.none)) hS₁ rfl
  refine wpAny_updateSeq hS₂ rfl ?_
  have hS₃ := Heap.get?_update_self (Obj.mapSeq (·.pop)) hS₂ rfl
  have up : ∀ (h : Heap) (f : Obj → Obj), (∀ b o, s.heap.get? b = some o → h.get? b = some o) → ∀ b o, s.heap.get? b = some o → (h.update s.heap.objs.size f).get? b = some o := fun h f q b o e =>
    (Heap.get?_update_other _ _ (Ne.symm (Nat.ne_of_lt (Heap.lt_size e)))).trans (q b o e)
  have k3 := up _ (Obj.mapSeq (·.pop)) (up _ (Obj.mapSeq (·.push Value.none)) k1)
  obtain ⟨gs, n, g1, g2⟩ := go _ _ k3 hS₃
  refine wpAny_pure ⟨plainId_quiet F.plain_extend_loop _, tup_loop (G := G) (p0 := p0) (A := A) (Qe := Qe) hh hd hpa hga (fun s1 s' σ2 H I1 hq wk => ?_) n _ (gty k3) (hl.keeps k3) ⟨gs, g1, g2⟩⟩
  obtain ⟨its, nn, hS', q⟩ := hQ s1 s' σ2 H I1 hq wk
  show wpAny _ A (load s.heap.objs.size >>= _) _ _ s'
  refine wpAny_bind (wpAny_load hS' ?_)
  refine wpAny_pure ?_
  have e : its.toArray.toList = its := by simp
  show Q its.toArray.toList s'
  rw [e]
  exact q
theorem code_tuple_newX {prog : Program} {w : World} {A : Around} {E : Value → Shared → Prop} {s : Shared} {a : Addr} {Q₁ : Value → Shared → Prop} (hTI : s.TypeIs (.ref a) "generator")
    (hc : wpAny (model prog w) A.in1 (collect (.ref a)) (fun xs s' => xs.length ≤ sizeLine ∧ Q₁ (.ref s'.heap.objs.size) { s' with heap := s'.heap.push { cls := .type "tuple", data := .seq xs.toArray } }) E s) :
    codeAny (model prog w) A (.call (.builtin "tuple.__new__") ⟨[.type "tuple", .ref a], []⟩) (wants Q₁ E) s := by
  refine codeAny_of_tree ?_
  show wpAny _ A.in1 (do checkBuiltinCall "tuple.__new__" ⟨[.type "tuple", .ref a], []⟩; again (.builtin "tuple.__new__" ⟨[.type "tuple", .ref a], []⟩)) _ _ s
  refine wpAny_bind (wpAny_of_eq (F.newCall_tuple_1 _) (wpAny_pure ⟨plainId_quiet F.plain_tuple_new _, codeAny_builtin F.entry_tuple_new ?_⟩))
  rw [Around.under_plainId F.plain_tuple_new _]
  have hsub := sub_tuple_self
  have hinit := init_tuple_lookup
  have hmh := madeHere_tuple
  wp_walk using wpAny_typeOf hTI, collect_mono hc (fun e s' h => h)
  intro xs s' h
  show wpAny _ _ (Builtin.Tuple.tupleExact xs.toArray >>= fun v => ret v) _ _ _
  unfold Builtin.Tuple.tupleExact
  refine wpAny_bind (wpAny_newObj_type ?_ (by show xs.toArray.size ≤ sizeLine; rw [List.size_toArray]; exact h.1))
  exact wpAny_pure h.2
/-- tuple(e for x in ..): as a list comprehension, the list at D; a new tuple of it -/
def tTupG (P : Addr) (wi : TI) (g : TG) (tt : TT) (te : TE) (vs : List Nat) : TE := fun σ H Q => wi σ H fun J H1 => TabG H1 P ∧ ∀ H2, Tabbed P H1 H2 → ∀ D, H2 D = none →
  ∃ W : Nat → Nat → Hp → Prop, (∃ m, W 0 m (upd H2 D (.lst []))) ∧ TupTurns J g tt te vs (wipe σ vs) D W (fun H => ∃ xs, H D = some (.lst xs) ∧ ∀ p, H p = none → Q (.ref p) (upd H p (.tup xs)))
theorem pe_tupG {c P : Addr} {elt tg iter : Expr} {ifs : List Expr} {scope : Scope} {own : List (Str × Nat)} {p pos gpos : Pos} {wi : TI} {g : TG} {tt : TT} {te : TE} {k : Nat}
    (hr : Room (k + 6) X.A) (hgl : Gl X "tuple") (hm : X.mg "tuple" = none) (TB : TabB X.base X.mg c P) (hcode : X.env.code = .ref c) (hc : X.calm = true) (hN : X.N.Nodup) (hi : PI X tg iter wi) (ok : BlkOk X.N X.env.scope scope own) (S : GScp scope)
    (hg : ∀ (s : Shared) (H : Hp) (C : Addr) (cl : List (Str × Addr)) (code : Value) (fp : List Addr) (A : Around), Room k A → PG (gen X s H (genEnv scope cl C code builtinsNs X.env) fp A) tg g)
    (ht : ∀ (s : Shared) (H : Hp) (C : Addr) (cl : List (Str × Addr)) (code : Value) (fp : List Addr) (A : Around), Room k A → PTs (gen X s H (genEnv scope cl C code builtinsNs X.env) fp A) ifs tt)
    (he : ∀ (s : Shared) (H : Hp) (C : Addr) (cl : List (Str × Addr)) (code : Value) (fp : List Addr) (A : Around), Room k A → PE (gen X s H (genEnv scope cl C code builtinsNs X.env) fp A) elt te)
    (hs : ∀ v, genFold iter X.env v = pure v)
    (hst : starEach [.GeneratorExp elt [⟨tg, iter, ifs, 0⟩] scope gpos] X.env = (false, eval (.GeneratorExp elt [⟨tg, iter, ifs, 0⟩] scope gpos) X.env) :: starEach [] X.env := by rfl) :
    PE X (.Call (.Name "tuple" p) [.GeneratorExp elt [⟨tg, iter, ifs, 0⟩] scope gpos] [] pos) (tTupG P wi g tt te (own.map (·.2))) := by
  refine ⟨fun pins s σ H Q I h => ?_⟩
  have hfree : ∀ y ∈ scope.names, y.2 = .free → ∃ c, X.env.cells.lookup y.1 = some c := fun y hy e => by
    rcases ok.free y hy e with k | k
    · exact I.ok.has _ (.inl k)
    · exact I.ok.has _ (.inr k)
  refine wpAny_Call_Name_kw (ld_blt I hgl hm (by decide +kernel : bootBuiltins "tuple" = some (.type "tuple")) ?_)
  refine PyProof.Rows.callWith_type1 ?_ hst (by rfl)
  rw [hst]
  show wpAny _ _ (spliced ((false, eval (.GeneratorExp elt [⟨tg, iter, ifs, 0⟩] scope gpos) X.env) :: backTo pos (starEach [] X.env))) _ _ s
  refine Calls.spliced_cons ?_
  refine wpAny_GeneratorExp_make S.co (closure_ok hfree) S.nc S.dot ok.kind (by have := hr.dp; omega) ?_ hs
  refine thn (hi.run pins s σ H _ I h) fun xv s1 hx => thn hx fun itv s2 h2 => ?_
  obtain ⟨it, fp, tn, J, H2, e, I2, T, st2, f2, ⟨ps, hP, ht0⟩, q⟩ := h2
  subst e
  refine ⟨I2.nolimit, ?_⟩
  have hPs : s2.heap.get? P = some { cls := .none, data := .fields ps } := I2.hok P _ hP
  have cd : PySem.W.CodeHd s2.heap c P := TB.code.keeps fun b u e => I2.bk b u e
  have fpP : ∀ b ∈ fp, b ≠ P := fun b hb z => by
    have := (f2 b hb).1
    rw [z, hP] at this
    cases this
  have sz : ∀ b ∈ fp, b < s2.heap.objs.size := fun b hb => by
    obtain ⟨o, e, _⟩ := T.obj _ _ st2 b hb
    exact Heap.lt_size e
  have cont : ∀ (code : Value) (h3 : Heap) (tk : Nat) (ps' : Array Value), Heap.ExtBut P s2.heap h3 → s2.heap.objs.size ≤ h3.objs.size → h3.get? P = some { cls := .none, data := .fields ps' } → (∃ more, ps' = ps ++ more) → TriplesOk ps'.toList →
      wpAny (model X.prog X.w) X.A (builtinsFor X.env.globals X.env.builtins) (fun bi s₄ =>
        ∀ h', h'.Ns s₄.heap.objs.size (fun y => if y = ".0" then some (.ref it) else none) → Heap.SameBut s₄.heap.objs.size (s₄.heap.push { cls := .type "frame", data := .dict #[] }) h' →
          wpAny (model X.prog X.w) X.A (spliced (backTo pos (starEach [] X.env))) (fun vs s₁ => wpAny (model X.prog X.w) X.A (call (.type "tuple") (.ref h'.objs.size :: vs)) (EP X pins σ Q) X.xe s₁) X.xe { s₄ with
            gens := s₄.gens.push (.fresh (.compStart (.GeneratorExp elt [⟨tg, iter, ifs, 0⟩] scope gpos) 0 (.ref it) .none (genEnv scope (cloFrom X.env.cells scope.names []) s₄.heap.objs.size code bi X.env))),
            toks := s₄.toks + 1 + 1 + 1,
            heap := h'.push { cls := .type "generator", data := .fields #[.int s₄.gens.size 0, .str "<genexpr>" (s₄.toks + 1), .str (X.env.qual ++ "<genexpr>") (s₄.toks + 1 + 1)] } }) X.xe { s2 with heap := h3, toks := tk } := by
    intro code h3 tk ps' hx hsz hP3 hmore ht3
    obtain ⟨more, rfl⟩ := hmore
    obtain ⟨bm, ob, e1, e2, e3, e4, e5, e6, e7, e8⟩ := TB.bm
    have keep3 : ∀ b u, b ≠ P → s2.heap.get? b = some u → h3.get? b = some u := fun b u hb e => hx b u hb e
    refine wpAny_builtinsFor (m := X.mg) (by rw [I2.ok.glob]; exact (I2.mod.glob.keeps I2.bk).extBut hx TB.gP) e1 e2 (keep3 _ _ e4 (I2.bk _ _ e5)) e6 e7 e8 ?_
    generalize hs4 : ({ s2 with heap := h3, toks := tk } : Shared) = s4
    have h4h : s4.heap = h3 := by rw [← hs4]
    have I4 : Inv X pins σ (upd H2 P (.tbl (ps ++ more))) s4 := by
      rw [← hs4]
      exact inv_tab (more := more) (h' := h3) (g' := s2.gens) (d' := s2.drawn) (t' := tk) I2 hP keep3 hP3 I2.bare
    have hT2 : Tabbed P H2 (upd H2 P (.tbl (ps ++ more))) := ⟨⟨_, upd_same, ht3⟩, fun b hb => upd_ne hb⟩
    have q4 := q _ hT2
    generalize hH4 : upd H2 P (.tbl (ps ++ more)) = H4 at I4 q4
    have f4 : ∀ b ∈ fp, FpOk X pins H4 b ∧ b < s4.heap.objs.size := fun b hb => by
      refine ⟨⟨?_, (f2 b hb).2⟩, by rw [h4h]; exact Nat.lt_of_lt_of_le (sz b hb) hsz⟩
      rw [← hH4, upd_ne (fpP b hb)]
      exact (f2 b hb).1
    have st4 : tn 0 s4.heap := T.keep _ _ _ st2 fun b hb o e => by rw [h4h]; exact keep3 b o (fpP b hb) e
    intro h' hn' hs'
    have hsz' : h'.objs.size = s4.heap.objs.size + 1 := by rw [hs'.1, Heap.size_push]
    have keep' : ∀ b o, s4.heap.get? b = some o → h'.get? b = some o := fun b o e => hs'.extBut b o (Nat.ne_of_lt (Heap.lt_size e)) (Heap.get?_push_of_some _ e)
    generalize hoa : ({ cls := .type "generator", data := .fields #[.int s4.gens.size 0, .str "<genexpr>" (s4.toks + 1), .str (X.env.qual ++ "<genexpr>") (s4.toks + 1 + 1)] } : Obj) = oa
    generalize hcenv : genEnv scope (cloFrom X.env.cells scope.names []) s4.heap.objs.size code builtinsNs X.env = cenv
    generalize hs5 : ({ s4 with gens := s4.gens.push (.fresh (.compStart (.GeneratorExp elt [⟨tg, iter, ifs, 0⟩] scope gpos) 0 (.ref it) .none cenv)), toks := s4.toks + 1 + 1 + 1, heap := h'.push oa } : Shared) = s5
    have h5h : s5.heap = h'.push oa := by rw [← hs5]
    have kp5 : ∀ b o, s4.heap.get? b = some o → s5.heap.get? b = some o := fun b o e => by rw [h5h]; exact Heap.get?_push_of_some _ (keep' b o e)
    have ha5 : s5.heap.get? h'.objs.size = some oa := by rw [h5h]; exact Heap.get?_push_size _ (by rw [← hoa]; rfl)
    have g5 : s5.gens[s4.gens.size]? = some (.fresh (.compStart (.GeneratorExp elt [⟨tg, iter, ifs, 0⟩] scope gpos) 0 (.ref it) .none cenv)) := by rw [← hs5]; exact Array.getElem?_push_size ..
    have b5 : AllBare s5.gens := by rw [← hs5]; exact I4.bare.push rfl
    have isg : ∀ h : Heap, h.get? h'.objs.size = some oa → h.IsGen h'.objs.size s4.gens.size := fun h e => by
      rw [← hoa] at e
      exact ⟨_, _, _, e, rfl, rfl, rfl⟩
    refine Calls.spliced_nil ?_
    have back : ∀ s1 s' σ2 H', Inv (gen X s4 H4 cenv fp (X.A.in1.in1.in1.in1.deeper cenv)) [(h'.objs.size, oa)] σ2 H' s1 → Woken s1 s' → Inv X pins σ H' s' := fun s1 s' σ2 H' I1 wk =>
      inv_woken (I4.call' (ch := fp) I1.os I1.base I1.hok I1.bare fun b hb => ⟨(f4 b hb).1.2.2.2.1, (f4 b hb).1.2.1, (f4 b hb).1.2.2.2.2.1, (f4 b hb).1.2.2.2.2.2⟩) wk
    have frm : (X.A.in1.in1.in1.in1.deeper cenv).frames = some (cenv :: X.stack) := Around.frames_deeper I4.ok.frames
    have hrA : Room k (X.A.in1.in1.in1.in1.deeper cenv) := ((((((hr.mono (by omega : k + 5 ≤ k + 6)).in1).in1).in1).in1).deeper cenv)
    have I5 : Inv (gen X s4 H4 cenv fp (X.A.in1.in1.in1.in1.deeper cenv)) [] (wipe σ (own.map (·.2))) H4 (s5.setGen s4.gens.size .running) :=
      gen_start (s5 := s5.setGen s4.gens.size .running) I4 ok hN S.nc f4 hcenv.symm frm hrA.hd (by rw [← hs5]; rfl) (allBare_setGen b5 rfl) kp5 (show Heap.Ns s5.heap s4.heap.objs.size _ by rw [h5h]; exact hn'.push _)
    have I6 : Inv (gen X s4 H4 cenv fp (X.A.in1.in1.in1.in1.deeper cenv)) [(h'.objs.size, oa)] (wipe σ (own.map (·.2))) H4 (s5.setGen s4.gens.size .running) := I5.pins_of fun p hp => by
      have ep : p = (h'.objs.size, oa) := List.mem_singleton.mp hp
      subst ep
      have hge : s4.heap.objs.size ≤ h'.objs.size := by omega
      refine ⟨ha5, I4.hok.fresh hge, ?_, fun z => ?_, fun v z => ?_⟩
      · show h'.objs.size ≠ cenv.locals
        rw [← hcenv]
        show h'.objs.size ≠ s4.heap.objs.size
        omega
      · rcases List.mem_cons.mp (I4.stkSub _ z) with z | z
        · have hlt : h'.objs.size < s4.heap.objs.size := by
            rw [show h'.objs.size = X.env.locals from z]
            exact I4.lt
          exact absurd (Nat.lt_of_lt_of_le hlt hge) (Nat.lt_irrefl _)
        · exact I4.nofs hge z
      · rw [← hoa] at z
        cases z
    have hDn : H4 s5.heap.objs.size = none := I4.hok.fresh (by rw [h5h, Heap.size_push]; omega)
    obtain ⟨W, ⟨m0, w0⟩, turn⟩ := q4 s5.heap.objs.size hDn
    have hnf : ∀ b ∈ fp, upd H4 s5.heap.objs.size (.lst []) b = none := fun b hb => by
      have h2 : s4.heap.objs.size ≤ s5.heap.objs.size := by rw [h5h, Heap.size_push]; omega
      rw [upd_ne (Nat.ne_of_lt (Nat.lt_of_lt_of_le (f4 b hb).2 h2))]
      exact (f4 b hb).1.1
    refine callType_codes (Q₁ := fun obj s₁ => s₁.TypeIs obj "tuple" ∧ EP X pins σ Q obj s₁) F.called_tuple (F.typeCall_tuple_1 _) F.entry_object_init (code_tuple_newX (isg _ ha5).typeIs
      (collect_genX (G := gen X s4 H4 cenv fp (X.A.in1.in1.in1.in1.deeper cenv)) (p0 := [(h'.objs.size, oa)]) (A := X.A.in1.in1) (Qe := fun H => ∃ xs, H s5.heap.objs.size = some (.lst xs) ∧ ∀ p, H p = none → Q (.ref p) (upd H p (.tup xs))) hr.hd (by have := hr.dp; show X.A.depth < _; omega) (List.mem_singleton.mpr rfl) isg ha5 (I4.nolimit.keeps kp5) (fun h7 c7 kp7 hS7 => ?_) (fun s1 s' σ2 H' I1 hq wk => ?_))) fun obj s₁ h₁ => ?_
    · have I7 : Inv (gen X s4 H4 cenv fp (X.A.in1.in1.in1.in1.deeper cenv)) [(h'.objs.size, oa)] (wipe σ (own.map (·.2))) (upd H4 s5.heap.objs.size (.lst [])) (({ s5 with heap := h7 } : Shared).setGen s4.gens.size .running) :=
        I6.laid (h' := h7) (t' := s5.toks) (a := s5.heap.objs.size) (o := .lst []) (fun b u e => kp7 b u e) (Nat.le_refl _) ⟨Nat.zero_le _, [], c7, .nil, hS7⟩
      refine ⟨_, m0 + 1, g5, rfl, ?_⟩
      exact seg_tupStart (iter := iter) (scope := scope) (pos := gpos) (A := X.A.in1.in1.in1.in1) (p0 := [(h'.objs.size, oa)]) hc (by rw [← hcenv]; exact S.co) T (fun p hp z => by
          rw [List.mem_singleton.mp hp] at z
          have := (f4 _ z).2
          have hge : s4.heap.objs.size ≤ h'.objs.size := by omega
          exact absurd (Nat.lt_of_lt_of_le this hge) (Nat.lt_irrefl _))
        (by rw [← hcenv]; exact hg s4 H4 _ _ code fp _ (by rw [hcenv]; exact hrA)) (by rw [← hcenv]; exact ht s4 H4 _ _ code fp _ (by rw [hcenv]; exact hrA)) (by rw [← hcenv]; exact he s4 H4 _ _ code fp _ (by rw [hcenv]; exact hrA))
        turn m0 (m0 + 1) _ _ _ (by omega) I7 (T.keep _ _ _ st4 fun b _ o e => kp7 b o (kp5 b o e)) hnf w0
    · obtain ⟨xs, hx, hq⟩ := hq
      obtain ⟨its, nn, r, ho, hz⟩ := I1.lst hx
      have hlen := r.length
      refine ⟨its, nn, wk.2.2 _ _ ho, by omega, ⟨_, Heap.get?_push_size _ rfl, rfl⟩, ?_⟩
      have Ib := back s1 s' σ2 H' I1 wk
      exact ⟨.ref s'.heap.objs.size, upd H' s'.heap.objs.size (.tup xs), Ib.laid (h' := s'.heap.push { cls := .type "tuple", data := .seq its.toArray }) (t' := s'.toks) (fun b o e => Heap.get?_push_of_some _ e) (Nat.le_refl _) (show ObjOk X.prog X.w _ _ _ (.tup xs) from ⟨hz, its, r, IsTup.new _ _⟩), rfl, hq _ (Ib.hok.fresh (Nat.le_refl _))⟩
    · exact ⟨h₁.1, F.args_object_init_2 obj _, object_init_meets F.called_tuple.init.lookup F.called_tuple.made (by decide) X.prog X.w X.A.in1 _ s₁ ⟨h₁.1, rfl, h₁.2⟩⟩
  cases hf : codeAmong gpos ps.toList with
  | none =>
    refine wpAny_genexprCodeX hcode (cd.code hPs ht0) (cd.tab hPs) hf fun c' h' tk hx hge hlt hco' _ htab' _ => ?_
    obtain ⟨o1, vs, f1, tf, fl, tg', inF, tx, tt', op, _, _, _, _, _, _, _, _, _, htr, _⟩ := hco'
    exact cont _ h' tk _ hx (Nat.le_trans hge (Nat.le_of_lt hlt)) htab'.2 ⟨_, rfl⟩ htr
  | some cv =>
    refine wpAny_genexprCode_hit hcode (cd.code hPs ht0) hf ?_
    exact cont cv s2.heap s2.toks ps (Heap.ExtBut.refl _ _) (Nat.le_refl _) hPs ⟨#[], by simp⟩ ht0
end
end Zk
set_option Elab.async false
set_option linter.all false
set_option maxRecDepth 100000
set_option maxHeartbeats 2000000
/-! Rows of parts; what a def with a table keeps. -/
namespace Zk
open PySem PySem.Spec PyProof.Rows L2 GxR RZ
/-! ### all kept, but the table at Pt has grown -/
structure Kt (Pt : Addr) (H H' : Hp) : Prop where
  keep : ∀ b o, b ≠ Pt → H b = some o → H' b = some o
  tab : TabG H' Pt
theorem Kt.kp {Pt : Addr} {H H' : Hp} (k : Kt Pt H H') (h : TabG H Pt) : Kp H H' := fun b o n e => by
  obtain ⟨ps, hp, _⟩ := h
  exact k.keep b o (ne_of e hp (n ps)) e
theorem Kt.tg {Pt P' : Addr} {H H' : Hp} (k : Kt Pt H H') (h : TabG H P') : TabG H' P' := by
  by_cases z : P' = Pt
  · rw [z]; exact k.tab
  · obtain ⟨ps, hp, t⟩ := h
    exact ⟨ps, k.keep _ _ z hp, t⟩
theorem Kt.of_same {Pt : Addr} {H H' : Hp} (e : Same H H') (h : TabG H Pt) : Kt Pt H H' := ⟨fun b o _ q => e b o q, tg_same h e⟩
theorem Kt.of_tab {Pt : Addr} {H H' : Hp} (e : Tabbed Pt H H') : Kt Pt H H' := ⟨fun b o n q => by rw [e.2 b n]; exact q, e.1⟩
theorem Kt.trans {Pt : Addr} {H H1 H2 : Hp} (a : Kt Pt H H1) (b : Kt Pt H1 H2) : Kt Pt H H2 := ⟨fun c o n q => b.keep c o n (a.keep c o n q), b.tab⟩
/-- all kept, but the table at Pt and the list at D -/
structure Kd (Pt D : Addr) (H H' : Hp) : Prop where
  keep : ∀ b o, b ≠ Pt → b ≠ D → H b = some o → H' b = some o
  tab : TabG H' Pt
theorem Kd.start {Pt D : Addr} {H H2 : Hp} {o : HO} (T : Tabbed Pt H H2) (n : H2 D = none) : Kd Pt D H (upd H2 D o) := by
  have nD : Pt ≠ D := fun z => by
    obtain ⟨ps, hp, _⟩ := T.1
    rw [z, n] at hp
    cases hp
  refine ⟨fun b u h1 h2 e => ?_, ?_⟩
  · rw [upd_ne h2, T.2 b h1]; exact e
  · obtain ⟨ps, hp, t⟩ := T.1
    exact ⟨ps, by rw [upd_ne nD]; exact hp, t⟩
theorem Kd.same {Pt D : Addr} {H H1 H2 : Hp} (k : Kd Pt D H H1) (e : Same H1 H2) : Kd Pt D H H2 := ⟨fun b o h1 h2 q => e _ _ (k.keep b o h1 h2 q), tg_same k.tab e⟩
theorem Kd.upd {Pt D : Addr} {H H1 : Hp} {xs : List V} {o : HO} (k : Kd Pt D H H1) (hD : H1 D = some (.lst xs)) : Kd Pt D H (upd H1 D o) := by
  obtain ⟨ps, hp, t⟩ := k.tab
  have n : Pt ≠ D := ne_of hp hD (fun z => by cases z)
  exact ⟨fun b u h1 h2 q => by rw [upd_ne h2]; exact k.keep b u h1 h2 q, ps, by rw [upd_ne n]; exact hp, t⟩
theorem Kd.kt {Pt D : Addr} {H H1 : Hp} (k : Kd Pt D H H1) (n : H D = none) : Kt Pt H H1 := ⟨fun b o h1 q => k.keep b o h1 (ne_of_none q n) q, k.tab⟩
theorem Kd.get {Pt D : Addr} {H H1 : Hp} {b : Addr} {o : HO} (k : Kd Pt D H H1) (n : H D = none) (h : TabG H Pt) (e : H b = some o) (no : ∀ ps, o ≠ .tbl ps) : H1 b = some o := by
  obtain ⟨ps, hp, _⟩ := h
  exact k.keep b o (ne_of e hp (no ps)) (ne_of_none e n) e
theorem same_upd {H : Hp} {p : Addr} {o : HO} (n : H p = none) : Same H (upd H p o) := fun b u e => by rw [upd_ne (ne_of_none e n)]; exact e
/-! ### the loop of tuple(..) -/
theorem tup_steps {J : It} {g : TG} {tt : TT} {te : TE} {vs : List Nat} {σw : L2.St} {D : Addr} {H0 : Hp} {Qe : Hp → Prop} (n : Nat) (Pv : Nat → Hp → Prop) (h0 : Pv 0 H0) (hgo : ∀ i H, i < n → Pv i H → J.go i H) (hstop : ∀ H, Pv n H → J.stop n H)
    (hs : ∀ i H x H', i < n → Pv i H → J.yld i H x H' → g x σw H' fun σ2 H2 => wipe σ2 vs = σw ∧ tt σ2 H2 fun b H3 => if b = true then te σ2 H3 fun y H4 => ∃ xs, H4 D = some (.lst xs) ∧ xs.length < sizeLine ∧ Pv (i + 1) (upd H4 D (.lst (xs ++ [y]))) else Pv (i + 1) H3)
    (hd : ∀ H, Pv n H → Qe H) : ∃ W : Nat → Nat → Hp → Prop, (∃ m, W 0 m H0) ∧ TupTurns J g tt te vs σw D W Qe := by
  refine ⟨fun i m H => m = n - i ∧ i ≤ n ∧ Pv i H, ⟨n, rfl, Nat.zero_le _, h0⟩, ?_⟩
  rintro i m H ⟨rfl, hi, p⟩
  by_cases h : i < n
  · exact .inr ⟨hgo i H h p, Pv (i + 1), fun H' p' => ⟨n - (i + 1), by omega, rfl, h, p'⟩, fun x H' hy => hs i H x H' h p hy⟩
  · have e : i = n := by omega
    subst e
    exact .inl ⟨hstop H p, hd H p⟩
theorem tup_zip {K : PySem.W.Frag} {a b : Addr} {xs ys : List V} {g : TG} {tt : TT} {te : TE} {vs : List Nat} {σw : L2.St} {D : Addr} {H0 : Hp} {Qe : Hp → Prop} (hl : xs.length = ys.length) (Pv : Nat → Hp → Prop) (h0 : Pv 0 H0) (hq : ∀ i H, Pv i H → SqT K H a xs ∧ SqT K H b ys)
    (hs : ∀ (i : Nat) (x y : V) (T : Addr) (H : Hp), xs[i]? = some x → ys[i]? = some y → Pv i H → H T = none → g (.ref T) σw (upd H T (.tup [x, y])) fun σ2 H2 => wipe σ2 vs = σw ∧ tt σ2 H2 fun b H3 => if b = true then te σ2 H3 fun y H4 => ∃ xs, H4 D = some (.lst xs) ∧ xs.length < sizeLine ∧ Pv (i + 1) (upd H4 D (.lst (xs ++ [y]))) else Pv (i + 1) H3)
    (hd : ∀ H, Pv xs.length H → Qe H) : ∃ W : Nat → Nat → Hp → Prop, (∃ m, W 0 m H0) ∧ TupTurns (ItzT K a b) g tt te vs σw D W Qe := by
  refine tup_steps xs.length Pv h0 (fun i H hi p => ?_) (fun H p => ?_) (fun i H v H' hi p hy => ?_) hd
  · obtain ⟨qx, qy⟩ := hq i H p
    exact ⟨xs, ys, xs[i], ys[i], qx, qy, List.getElem?_eq_getElem hi, List.getElem?_eq_getElem (by omega)⟩
  · obtain ⟨qx, qy⟩ := hq _ H p
    exact ⟨xs, ys, qx, qy, .inl (Nat.le_refl _)⟩
  · obtain ⟨qx, qy⟩ := hq i H p
    obtain ⟨T, x', y', rfl, hT, rfl, f1, f2⟩ := hy
    exact hs i x' y' T H (f1 xs qx) (f2 ys qy) p hT
theorem tup_tup {K : PySem.W.Frag} {a : Addr} {xs : List V} {g : TG} {tt : TT} {te : TE} {vs : List Nat} {σw : L2.St} {D : Addr} {H0 : Hp} {Qe : Hp → Prop} (Pv : Nat → Hp → Prop) (h0 : Pv 0 H0) (hq : ∀ i H, Pv i H → SqT K H a xs)
    (hs : ∀ (i : Nat) (x : V) (H : Hp), xs[i]? = some x → Pv i H → g x σw H fun σ2 H2 => wipe σ2 vs = σw ∧ tt σ2 H2 fun b H3 => if b = true then te σ2 H3 fun y H4 => ∃ xs, H4 D = some (.lst xs) ∧ xs.length < sizeLine ∧ Pv (i + 1) (upd H4 D (.lst (xs ++ [y]))) else Pv (i + 1) H3)
    (hd : ∀ H, Pv xs.length H → Qe H) : ∃ W : Nat → Nat → Hp → Prop, (∃ m, W 0 m H0) ∧ TupTurns (Itt K a) g tt te vs σw D W Qe := by
  refine tup_steps xs.length Pv h0 (fun i H hi p => ⟨xs, xs[i], hq i H p, List.getElem?_eq_getElem hi⟩) (fun H p => ⟨xs, hq _ H p, Nat.le_refl _⟩) (fun i H v H' hi p hy => ?_) hd
  obtain ⟨rfl, f1⟩ := hy
  exact hs i v _ (f1 xs (hq i _ p)) p
theorem z_tupG {P : Addr} {wi : TI} {g : TG} {tt : TT} {te : TE} {vs : List Nat} {σ : L2.St} {H : Hp} {Q : VK} (q : wi σ H fun J H1 => TabG H1 P ∧ ∀ H2, Tabbed P H1 H2 → ∀ D, H2 D = none →
  ∃ W : Nat → Nat → Hp → Prop, (∃ m, W 0 m (upd H2 D (.lst []))) ∧ TupTurns J g tt te vs (wipe σ vs) D W (fun H => ∃ xs, H D = some (.lst xs) ∧ ∀ p, H p = none → Q (.ref p) (upd H p (.tup xs)))) : tTupG P wi g tt te vs σ H Q := q
theorem z_zipA {K : PySem.W.Frag} {ta : TA} {σ : L2.St} {H : Hp} {R : It → Hp → Prop} (q : ta σ H fun vs H1 => ∃ a b xs ys, vs = [.ref a, .ref b] ∧ ((SqL K H1 a xs ∧ SqL K H1 b ys ∧ R (Itz K a b) H1) ∨ (SqT K H1 a xs ∧ SqT K H1 b ys ∧ R (ItzT K a b) H1))) : iZipA K ta σ H R := q
theorem op_repTE {X : Cx} (K : PySem.W.Frag) (e : X.K = K := by rfl) : OpR X (binaryOp .Mult) (rRepT K) := by rw [← e]; exact op_repT
theorem pi_zipE {X : Cx} (K : PySem.W.Frag) {e e2 : Expr} {ta : TA} {p pos tpos : Pos} {elts : List Expr} {kk : Nat} (hg : Gl X "zip") (hm : X.mg "zip" = none) (ha : PA X [e, e2] ta) (ek : X.K = K := by rfl)
    (hs : starEach [e, e2] X.env = (false, eval e X.env) :: starEach [e2] X.env := by rfl) (hpl : (backTo pos (starEach [e2] X.env)).any (·.1) = false := by rfl) :
    PI X (.Tuple elts kk tpos) (.Call (.Name "zip" p) [e, e2] [] pos) (iZipA K ta) := by rw [← ek]; exact pi_zipA hg hm ha hs hpl
theorem z_repT1 {K : PySem.W.Frag} {H : Hp} {Q : VK} {l : Addr} {v : V} {k : Int} (h : H l = some (.tup [v])) (h2 : 2 ≤ k) (h3 : k ≤ 1000) (q : ∀ p H', H p = none → Same H H' → H' p = some (.tup (List.replicate k.toNat v)) → Q (.ref p) H') : rRepT K (.ref l) (.int k) H Q :=
  ⟨l, k, [v], rfl, rfl, SqT.of h, by simp, h2, h3, by simp, fun p hp => q p _ hp (same_upd hp) (by rw [upd_same, List.flatten_replicate_singleton])⟩
/-! ### rows -/
abbrev Pt : Type := Int × Nat
def PtV (H : Hp) (v : V) (d : Pt) : Prop := ∃ q, v = .ref q ∧ H q = some (.tup [.int d.1, .int (d.2 : Int)])
theorem PtV.kp {H H' : Hp} {v : V} {d : Pt} (h : PtV H v d) (k : Kp H H') : PtV H' v d := by
  obtain ⟨q, rfl, h⟩ := h
  exact ⟨q, rfl, k.tup h⟩
def PtsAll (H : Hp) : List V → List Pt → Prop
  | [], [] => True
  | v :: vs, d :: ds => PtV H v d ∧ PtsAll H vs ds
  | _, _ => False
theorem PtsAll.len {H : Hp} : ∀ {vs : List V} {ds : List Pt}, PtsAll H vs ds → vs.length = ds.length
  | [], [], _ => rfl
  | _ :: _, _ :: _, h => by simp only [List.length_cons]; rw [PtsAll.len h.2]
  | [], _ :: _, h => h.elim
  | _ :: _, [], h => h.elim
theorem PtsAll.get {H : Hp} : ∀ {vs : List V} {ds : List Pt} {i : Nat} {v : V}, PtsAll H vs ds → vs[i]? = some v → ∃ d, ds[i]? = some d ∧ PtV H v d
  | [], [], _, _, _, e => by simp at e
  | w :: vs, d :: ds, 0, v, h, e => by
    have e2 : w = v := by simpa using e
    exact ⟨d, rfl, e2 ▸ h.1⟩
  | _ :: vs, _ :: ds, i + 1, v, h, e => PtsAll.get (i := i) h.2 (by simpa using e)
  | [], _ :: _, _, _, h, _ => h.elim
  | _ :: _, [], _, _, h, _ => h.elim
theorem PtsAll.kp {H H' : Hp} (k : Kp H H') : ∀ {vs : List V} {ds : List Pt}, PtsAll H vs ds → PtsAll H' vs ds
  | [], [], _ => trivial
  | _ :: _, _ :: _, h => ⟨h.1.kp k, PtsAll.kp k h.2⟩
  | [], _ :: _, h => h.elim
  | _ :: _, [], h => h.elim
theorem PtsAll.snoc {H : Hp} {v : V} {d : Pt} (hv : PtV H v d) : ∀ {vs : List V} {ds : List Pt}, PtsAll H vs ds → PtsAll H (vs ++ [v]) (ds ++ [d])
  | [], [], _ => ⟨hv, trivial⟩
  | _ :: _, _ :: _, h => ⟨h.1, PtsAll.snoc hv h.2⟩
  | [], _ :: _, h => h.elim
  | _ :: _, [], h => h.elim
theorem PtsAll.rep {H : Hp} {v : V} {d : Pt} (hv : PtV H v d) : ∀ n, PtsAll H (List.replicate n v) (List.replicate n d)
  | 0 => trivial
  | n + 1 => ⟨hv, PtsAll.rep hv n⟩
/-- a list written: what are tuples stays -/
theorem PtsAll.updL {H : Hp} {D : Addr} {xs : List V} {o : HO} (hD : H D = some (.lst xs)) : ∀ {vs : List V} {ds : List Pt}, PtsAll H vs ds → PtsAll (upd H D o) vs ds
  | [], [], _ => trivial
  | _ :: _, _ :: _, h => by
    obtain ⟨⟨q, rfl, hq⟩, h2⟩ := h
    exact ⟨⟨q, rfl, by rw [upd_ne (ne_of hq hD (fun z => by cases z))]; exact hq⟩, PtsAll.updL hD h2⟩
  | [], _ :: _, h => h.elim
  | _ :: _, [], h => h.elim
theorem PtsAll.app {H : Hp} : ∀ {vs ws : List V} {ds es : List Pt}, PtsAll H vs ds → PtsAll H ws es → PtsAll H (vs ++ ws) (ds ++ es)
  | [], _, [], _, _, h => h
  | _ :: _, _, _ :: _, _, h, h2 => ⟨h.1, PtsAll.app h.2 h2⟩
  | [], _, _ :: _, _, h, _ => h.elim
  | _ :: _, _, [], _, h, _ => h.elim
def RowA (H : Hp) (p : Addr) (ds : List Pt) : Prop := ∃ vs, H p = some (.tup vs) ∧ PtsAll H vs ds
theorem RowA.kp {H H' : Hp} {p : Addr} {ds : List Pt} (h : RowA H p ds) (k : Kp H H') : RowA H' p ds := by
  obtain ⟨vs, h1, h2⟩ := h
  exact ⟨vs, k.tup h1, h2.kp k⟩
def Bd (m : Nat) (ds : List Pt) : Prop := ∀ d ∈ ds, d.1.natAbs < 2 ^ m ∧ d.2 ≤ m
def plusF (x y : Pt) : Pt := partF (x.2 + y.2) (x.1 * 2 ^ y.2 + y.1 * 2 ^ x.2)
def lessF (x y : Pt) : Pt := partF (x.2 + y.2) (x.1 * 2 ^ y.2 - y.1 * 2 ^ x.2)
theorem PtsAll.mono {H H' : Hp} (k : ∀ q xs, H q = some (.tup xs) → H' q = some (.tup xs)) : ∀ {vs : List V} {ds : List Pt}, PtsAll H vs ds → PtsAll H' vs ds
  | [], [], _ => trivial
  | _ :: _, _ :: _, h => by
    obtain ⟨⟨q, rfl, hq⟩, h2⟩ := h
    exact ⟨⟨q, rfl, k _ _ hq⟩, PtsAll.mono k h2⟩
  | [], _ :: _, h => h.elim
  | _ :: _, [], h => h.elim
theorem RowA.mono {H H' : Hp} {p : Addr} {ds : List Pt} (k : ∀ q xs, H q = some (.tup xs) → H' q = some (.tup xs)) (h : RowA H p ds) : RowA H' p ds := by
  obtain ⟨vs, h1, h2⟩ := h
  exact ⟨vs, k _ _ h1, h2.mono k⟩
/-- a law's way: all kept but the source at s and the tables of Ps -/
structure Ls (s : Addr) (Ps : List Addr) (H H' : Hp) : Prop where
  keep : ∀ b o, b ≠ s → (∀ ps, o ≠ .tbl ps) → H b = some o → H' b = some o
  src0 : Src H s
  src : Src H' s
  tt : ∀ p ∈ Ps, TabG H' p
theorem Ls.refl {s : Addr} {Ps : List Addr} {H : Hp} (h : Src H s) (t : ∀ p ∈ Ps, TabG H p) : Ls s Ps H H := ⟨fun _ _ _ _ e => e, h, h, t⟩
theorem Ls.trans {s : Addr} {Ps : List Addr} {H H1 H2 : Hp} (a : Ls s Ps H H1) (b : Ls s Ps H1 H2) : Ls s Ps H H2 := ⟨fun c o n1 n2 e => b.keep c o n1 n2 (a.keep c o n1 n2 e), a.src0, b.src, b.tt⟩
theorem Ls.same {s : Addr} {Ps : List Addr} {H H1 H2 : Hp} (l : Ls s Ps H H1) (e : Same H1 H2) : Ls s Ps H H2 := ⟨fun b o n1 n2 q => e _ _ (l.keep b o n1 n2 q), l.src0, l.src.same e, fun p hp => tg_same (l.tt p hp) e⟩
theorem Ls.dr {s : Addr} {Ps : List Addr} {H H1 H2 : Hp} (l : Ls s Ps H H1) (d : Dr s H1 H2) : Ls s Ps H H2 := ⟨fun b o n1 n2 q => d.keep _ _ n1 (l.keep b o n1 n2 q), l.src0, d.src, fun p hp => tg_dr (l.tt p hp) d⟩
theorem Ls.kt {s P : Addr} {Ps : List Addr} {H H1 H2 : Hp} (l : Ls s Ps H H1) (k : Kt P H1 H2) (hP : P ∈ Ps) : Ls s Ps H H2 :=
  ⟨fun b o n1 n2 q => k.kp (l.tt P hP) b o n2 (l.keep b o n1 n2 q), l.src0, l.src.kp (k.kp (l.tt P hP)), fun p hp => k.tg (l.tt p hp)⟩
theorem Ls.tup {s q : Addr} {Ps : List Addr} {H H1 : Hp} {xs : List V} (l : Ls s Ps H H1) (h : H q = some (.tup xs)) : H1 q = some (.tup xs) := by
  obtain ⟨a, b, c, hs⟩ := l.src0
  exact l.keep _ _ (ne_of h hs (fun z => by cases z)) (fun _ z => by cases z) h
theorem Ls.row {s q : Addr} {Ps : List Addr} {H H1 : Hp} {ds : List Pt} (l : Ls s Ps H H1) (h : RowA H q ds) : RowA H1 q ds := h.mono fun _ _ e => l.tup e
theorem Ls.lst {s q : Addr} {Ps : List Addr} {H H1 : Hp} {xs : List V} (l : Ls s Ps H H1) (n : q ≠ s) (h : H q = some (.lst xs)) : H1 q = some (.lst xs) := l.keep _ _ n (fun _ z => by cases z) h
theorem plus_zero : ∀ (ds : List Pt) (n : Nat), ds.length = n → (∀ d ∈ ds, d.2 = 0) → List.zipWith plusF ds (List.replicate n ((0, 0) : Pt)) = ds
  | [], n, h, _ => by simp
  | (x, e) :: ds, n, h, h0 => by
    obtain ⟨n, rfl⟩ : ∃ k, n = k + 1 := ⟨n - 1, by simp at h; omega⟩
    have e0 : e = 0 := h0 (x, e) (by simp)
    subst e0
    rw [List.replicate_succ, List.zipWith_cons_cons, plus_zero ds n (by simpa using h) fun d hd => h0 d (by simp [hd])]
    have : plusF (x, 0) (0, 0) = (x, 0) := by
      show partF (0 + 0) (x * 2 ^ 0 + 0 * 2 ^ 0) = (x, 0)
      rw [Int.pow_zero, Int.mul_one, Int.zero_mul, Int.add_zero]
      rfl
    rw [this]
theorem less_self : ∀ ds : List Pt, List.zipWith lessF ds ds = List.replicate ds.length ((0, 0) : Pt)
  | [] => rfl
  | (x, e) :: ds => by
    rw [List.zipWith_cons_cons, less_self ds, List.length_cons, List.replicate_succ]
    have : lessF (x, e) (x, e) = (0, 0) := by
      show partF (e + e) (x * 2 ^ e - x * 2 ^ e) = (0, 0)
      rw [Int.sub_self]
      exact partF_zero _
    rw [this]
def ptD (d : Pt) : PyData := .tuple [.int d.1, .int (d.2 : Int)]
def rowD (ds : List Pt) : PyData := .tuple (ds.map ptD)
theorem dp_pts {K : PySem.W.Frag} {H : Hp} : ∀ {vs : List V} {ds : List Pt}, PtsAll H vs ds → DpAll K H vs (ds.map ptD)
  | [], [], _ => .nil
  | _ :: _, _ :: _, h => by
    obtain ⟨⟨q, rfl, hq⟩, h2⟩ := h
    exact .cons (.tup (SqT.of hq) (.cons (.int _) (.cons (.int _) .nil))) (dp_pts h2)
  | [], _ :: _, h => h.elim
  | _ :: _, [], h => h.elim
theorem dp_row {K : PySem.W.Frag} {H : Hp} {p : Addr} {ds : List Pt} (h : RowA H p ds) : Dp K H (.ref p) (rowD ds) := by
  obtain ⟨vs, h1, h2⟩ := h
  exact .tup (SqT.of h1) (dp_pts h2)
theorem lay_pts : ∀ ds : List Pt, PyData.canLayAll0 (ds.map ptD) = true ∧ PyData.depthAll (ds.map ptD) ≤ 1
  | [] => ⟨rfl, Nat.zero_le _⟩
  | d :: ds => by
    obtain ⟨h1, h2⟩ := lay_pts ds
    refine ⟨?_, ?_⟩
    · show (PyData.canLay0 (ptD d) && PyData.canLayAll0 (ds.map ptD)) = true
      rw [h1]
      rfl
    · show max (PyData.depth (ptD d)) (PyData.depthAll (ds.map ptD)) ≤ 1
      have : PyData.depth (ptD d) = 1 := rfl
      omega
theorem sh_row (ds : List Pt) : SeqAt.shaped (rowD ds) = true := by
  obtain ⟨h1, h2⟩ := lay_pts ds
  unfold SeqAt.shaped
  have e1 : PyData.canLay0 (rowD ds) = true := h1
  have e2 : PyData.depth (rowD ds) = PyData.depthAll (ds.map ptD) + 1 := rfl
  rw [e1, e2, decide_eq_true (by omega)]
  rfl
theorem eqv_row (ds : List Pt) : PyData.eqv (rowD ds) (rowD ds) = true := SeqAt.eqv_refl _ (lay_pts ds).1
theorem z_neRow {K : PySem.W.Frag} {H : Hp} {Q : VK} {p q : Addr} {ds es : List Pt} (h1 : RowA H p ds) (h2 : RowA H q es) (e : ds = es) (k : Q (.bl false) H) : rNeD K (.ref p) (.ref q) H Q := by
  subst e
  exact z_neD (dp_row h1) (dp_row h2) (sh_row _) (sh_row _) (eqv_row _) k
theorem z_eqRow {K : PySem.W.Frag} {H : Hp} {Q : VK} {p q : Addr} {ds es : List Pt} (h1 : RowA H p ds) (h2 : RowA H q es) (e : ds = es) (k : Q (.bl true) H) : rEqD K (.ref p) (.ref q) H Q := by
  subst e
  exact z_eqD (dp_row h1) (dp_row h2) (sh_row _) (sh_row _) (eqv_row _) k
end Zk
set_option Elab.async false
set_option linter.all false
set_option maxRecDepth 100000
set_option maxHeartbeats 2000000
/-! Names, what is told of a thing by its kind, texts of one letter repeated, tuples of texts of the module. -/
namespace Zk
open PySem PySem.Spec PyProof.Rows L2 GxR
/-! ### a letter so many times -/
theorem rep_arr (c : Nat) : ∀ (m : Nat) (acc : Array Nat), (List.replicate m #[c]).foldl (· ++ ·) acc = acc ++ Array.replicate m c
  | 0, acc => by simp
  | m + 1, acc => by
    rw [List.replicate_succ, List.foldl_cons, rep_arr c m, Array.append_assoc]
    congr 1
    apply Array.ext'
    simp [List.replicate_succ]
def rRepS : R2 := fun x y H Q => ∃ (c : Nat) (k : Int), x = .str ⟨#[c]⟩ ∧ y = .int k ∧ 1 ≤ k ∧ k ≤ 1000 ∧ Q (.str ⟨Array.replicate k.toNat c⟩) H
theorem op_repS {X : Cx} : OpR X (binaryOp .Mult) rRepS := by
  intro pins s σ H x y v u Q I rx ry h
  obtain ⟨c, k, rfl, rfl, h1, h2, q⟩ := h
  obtain ⟨t, rfl⟩ := rx
  obtain ⟨t', rfl⟩ := ry
  have hl : (⟨#[c]⟩ : Str).length = 1 := rfl
  refine P.mul_str (by rw [decide_eq_false (by omega), decide_eq_false (by omega)]; rfl) (fun _ _ => ?_) (fun _ _ => ?_) ?_
  · rw [hl]
    have : (1 : Int) ≤ (2 ^ 63 - 1) / k := by
      rw [Int.le_ediv_iff_mul_le (by omega)]
      omega
    omega
  · rw [hl, Nat.one_mul]
    unfold Builtin.Str.tooLong
    exact decide_eq_false (by rw [sizeLine_eq]; omega)
  · rw [if_neg (by omega)]
    by_cases e : k = 1
    · subst e
      rw [if_pos (by rfl)]
      exact ⟨.str ⟨#[c]⟩, H, I, ⟨t, rfl⟩, q⟩
    · rw [if_neg (by
        rw [hl]
        simp [e])]
      have e2 : (⟨(List.replicate k.toNat (⟨#[c]⟩ : Str).cps).foldl (· ++ ·) #[]⟩ : Str) = ⟨Array.replicate k.toNat c⟩ := by
        rw [rep_arr]
        simp
      rw [e2]
      refine ⟨?_, .str ⟨Array.replicate k.toNat c⟩, H, I.tok _, ⟨_, rfl⟩, q⟩
      show (Array.replicate k.toNat c).size ≤ _
      rw [Array.size_replicate]
      exact Nat.le_of_lt (small1000 (by omega))
/-! ### tuples of texts among the module's names -/
def strOf : Value → Option Str
  | .str z _ => some z
  | _ => none
def tupB (K : PySem.W.Frag) (x : Str) (zs : List Str) : Bool := match K.lookup (He.ga K x) with
  | some ⟨.type c, _, .seq its _, _⟩ => decide (c = "tuple") && decide (its.toList.map strOf = zs.map some)
  | _ => false
theorem vals_strs : ∀ {us : List Value} {zs : List Str}, us.map strOf = zs.map some → Vals (zs.map V.str) us
  | [], [], _ => .nil
  | u :: us, z :: zs, h => by
    have h1 : strOf u = some z := by simpa using (List.cons.inj h).1
    have h2 : us.map strOf = zs.map some := (List.cons.inj h).2
    refine .cons ?_ (vals_strs h2)
    cases u with
    | str y t =>
      have : y = z := by simpa [strOf] using h1
      exact ⟨t, by rw [this]⟩
    | _ => cases h1
  | [], _ :: _, h => by simp at h
  | _ :: _, [], h => by simp at h
theorem tupB_ok {K : PySem.W.Frag} {x : Str} {zs : List Str} (h : tupB K x zs = true) (hz : zs.length ≤ 1000) (H : Hp) : SqT K H (He.ga K x) (zs.map V.str) := by
  unfold tupB at h
  cases e : K.lookup (He.ga K x) with
  | none =>
    rw [e] at h
    cases h
  | some o =>
    obtain ⟨oc, od, dt, sl⟩ := o
    rw [e] at h
    cases oc with
    | type c =>
      cases dt with
      | seq its n =>
        have h : (decide (c = "tuple") && decide (its.toList.map strOf = zs.map some)) = true := h
        rw [Bool.and_eq_true] at h
        have h2 := of_decide_eq_true h.2
        have hv := vals_strs h2
        have hl := hv.length
        rw [List.length_map] at hl
        refine .inr ⟨_, its, n, e, ?_, rfl, ?_, hv⟩
        · show Value.type c = Value.type "tuple"
          rw [of_decide_eq_true h.1]
        · have : its.size = its.toList.length := by simp
          rw [this, ← hl]
          exact Nat.le_of_lt (small1000 hz)
      | _ => cases h
    | _ => cases dt <;> cases h
/-! ### things by their kind -/
inductive TyV (H : Hp) : V → String → Prop
  | bl (b : Bool) : TyV H (.bl b) "bool"
  | non : TyV H .non "NoneType"
  | int (n : Int) : TyV H (.int n) "int"
  | str (z : Str) : TyV H (.str z) "str"
  | lst {l : Addr} {xs : List V} : H l = some (.lst xs) → TyV H (.ref l) "list"
  | tup {l : Addr} {xs : List V} : H l = some (.tup xs) → TyV H (.ref l) "tuple"
  | dct {l : Addr} {kvs : List (Key × V)} : H l = some (.dK kvs) → TyV H (.ref l) "dict"
theorem TyV.kp {H H' : Hp} {v : V} {n : String} (h : TyV H v n) (a : Kp H H') : TyV H' v n := by
  cases h with
  | bl b => exact .bl b
  | non => exact .non
  | int n => exact .int n
  | str z => exact .str z
  | lst h => exact .lst (a.lst h)
  | tup h => exact .tup (a.tup h)
  | dct h => exact .dct (a.dct h)
theorem TyV.x {K : PySem.W.Frag} {H : Hp} {v : V} {n : String} (h : TyV H v n) : TyX K H v (.type n) := by
  cases h with
  | bl b => exact .base (.bl b)
  | non => exact .base .non
  | int n => exact .base (.int n)
  | str z => exact .base (.str z)
  | lst h => exact .base (.lst h)
  | tup h => exact .base (.tup h)
  | dct h => exact .base (.dK h)
theorem TyV.noStr {H : Hp} {v : V} {n : String} (h : TyV H v n) (ne : n ≠ "str") : kitB n "str" = some false := by
  cases h with
  | str z => exact absurd rfl ne
  | _ => decide +kernel
theorem TyV.noTup {H : Hp} {v : V} {n : String} (h : TyV H v n) (ne : n ≠ "tuple") : kitB n "tuple" = some false := by
  cases h with
  | tup z => exact absurd rfl ne
  | _ => decide +kernel
/-- is_name's answer -/
def NmV (H : Hp) (x : V) (k : Bool) : Prop := (∃ n, TyV H x n ∧ n ≠ "str" ∧ k = false) ∨ ∃ z : Str, x = .str z ∧ z.length ≤ 1000 ∧ k = nmB z
theorem NmV.kp {H H' : Hp} {x : V} {k : Bool} (h : NmV H x k) (a : Kp H H') : NmV H' x k := by
  rcases h with ⟨n, t, r⟩ | h
  · exact .inl ⟨n, t.kp a, r⟩
  · exact .inr h
theorem NmV.of_nm {H : Hp} {z : Str} (h : nmB z = true) : NmV H (.str z) true := by
  refine .inr ⟨z, rfl, ?_, h.symm⟩
  unfold nmB at h
  rw [Bool.and_eq_true, Bool.and_eq_true] at h
  have := of_decide_eq_true h.2.1
  omega
/-! ### lists of names -/
theorem nd_range {n : Nat} {F : Nat → Str} (h : ∀ i j, i < n → j < n → F i = F j → i = j) : ((List.range n).map F).Nodup := by
  unfold List.Nodup
  rw [List.pairwise_map]
  refine List.Pairwise.imp_of_mem (R := fun a b => a ≠ b) (fun {a b} ha hb hab e => hab (h a b (List.mem_range.mp ha) (List.mem_range.mp hb) e)) List.nodup_range
theorem nm_mid {a b : Str} {c : Nat} (ha : a.cps.toList.all smB = true) (hb : b.cps.toList.all smB = true) (hc : smB c = true) (hl : a.length + b.length ≤ 7) : nmB (a ++ ⟨#[c]⟩ ++ b) = true := by
  unfold nmB
  have l1 : (⟨#[c]⟩ : Str).length = 1 := rfl
  have e : (a ++ ⟨#[c]⟩ ++ b).length = a.length + 1 + b.length := by rw [Str.length_append, Str.length_append, l1]
  have e2 : (a ++ ⟨#[c]⟩ ++ b).cps.toList = a.cps.toList ++ [c] ++ b.cps.toList := by
    show ((a.cps ++ #[c]) ++ b.cps).toList = _
    simp
  rw [e, e2, decide_eq_true (by omega), decide_eq_true (by omega), List.all_append, List.all_append, ha, hb]
  simp [hc]
theorem inj_mid {a b : Str} {c d : Nat} (h : a ++ (⟨#[c]⟩ : Str) ++ b = a ++ ⟨#[d]⟩ ++ b) : c = d := by
  have e2 : ∀ x : Nat, (a ++ (⟨#[x]⟩ : Str) ++ b).cps.toList = a.cps.toList ++ ([x] ++ b.cps.toList) := fun x => by
    show ((a.cps ++ #[x]) ++ b.cps).toList = _
    simp
  have h2 : (a ++ (⟨#[c]⟩ : Str) ++ b).cps.toList = (a ++ (⟨#[d]⟩ : Str) ++ b).cps.toList := by rw [h]
  rw [e2, e2] at h2
  have h3 := List.append_cancel_left h2
  exact (List.cons.inj h3).1
theorem nm_rep {c n : Nat} (hc : smB c = true) (h1 : 1 ≤ n) (h8 : n ≤ 8) : nmB ⟨Array.replicate n c⟩ = true := by
  unfold nmB
  have e : (⟨Array.replicate n c⟩ : Str).length = n := by show (Array.replicate n c).size = n; simp
  rw [e, decide_eq_true h1, decide_eq_true h8]
  simp [hc]
theorem all_cut {z : Str} (h : z.cps.toList.all smB = true) (lo hi : Option Int) : (cutS z lo hi).cps.toList.all smB = true := by
  rw [List.all_eq_true] at h ⊢
  intro c hc
  unfold cutS at hc
  rw [List.toList_toArray] at hc
  exact h c (List.mem_of_mem_drop (List.mem_of_mem_take hc))
theorem all_join : ∀ ys : List Str, (∀ y ∈ ys, y.cps.toList.all smB = true) → (Str.join "" ys).cps.toList.all smB = true
  | [], _ => rfl
  | [y], h => h y (by simp)
  | x :: z :: r, h => by
    have ih := all_join (z :: r) fun y hy => h y (List.mem_cons_of_mem _ hy)
    show (x ++ "" ++ Str.join "" (z :: r)).cps.toList.all smB = true
    have e : (x ++ "" ++ Str.join "" (z :: r)).cps.toList = x.cps.toList ++ (Str.join "" (z :: r)).cps.toList := by
      show ((x.cps ++ #[]) ++ (Str.join "" (z :: r)).cps).toList = _
      simp
    rw [e, List.all_append, ih, h x (by simp)]
    rfl
theorem letter_at : ∀ j, j < 26 → ("abcdefghijklmnopqrstuvwxyz" : Str).cps.toList[j]? = some (97 + j) := by decide +kernel
theorem letter_sm {j : Nat} (h : j < 26) : smB (97 + j) = true := by
  unfold smB
  rw [decide_eq_true (by omega), decide_eq_true (by omega)]
  rfl
end Zk
set_option Elab.async false
set_option linter.all false
set_option maxRecDepth 100000
set_option maxHeartbeats 2000000
/-! Sets that comprehensions make: of texts, of ints, of tuples of texts; min, max of two texts. -/
namespace Zk
open PySem PySem.Spec PyProof.Rows L2
/-! ### min, max of two texts -/
def sLt (x y : Str) : Bool := decide (x.cps.toList < y.cps.toList)
section
variable {prog : Program} {w : World} {A : Around} {E : Value → Shared → Prop} {s : Shared}
theorem cmpTxtLt {P : Nat → Value → Prop} (val : Nat → Str) (hval : ∀ i v, P i v → ∃ t, v = .str (val i) t) : CmpOf prog w A .Lt P (fun i j => sLt (val i) (val j)) := fun i j vi vj s Q E hi hj h => by
  obtain ⟨t, rfl⟩ := hval i vi hi
  obtain ⟨u, rfl⟩ := hval j vj hj
  exact richCompare_gives (op := .Lt) (typeIs_str s _ t) (typeIs_str s _ u) F.slot_str_lt F.entry_str_lt (F.args_str_lt_2 _ _) (gives_str_lt _ _ t u) (fun x => nomatch x) h
theorem cmpTxtGt {P : Nat → Value → Prop} (val : Nat → Str) (hval : ∀ i v, P i v → ∃ t, v = .str (val i) t) : CmpOf prog w A .Gt P (fun i j => sLt (val j) (val i)) := fun i j vi vj s Q E hi hj h => by
  obtain ⟨t, rfl⟩ := hval i vi hi
  obtain ⟨u, rfl⟩ := hval j vj hj
  exact richCompare_gives (op := .Gt) (typeIs_str s _ t) (typeIs_str s _ u) F.slot_str_gt F.entry_str_gt (F.args_str_gt_2 _ _) (gives_str_gt _ _ t u) (fun x => nomatch x) h
def twoAt (x y : Str) : Nat → Str := fun i => if i = 0 then x else y
theorem twoAt_of {x y : Str} {t u : Tok} {i : Nat} {v : Value} (h : (#[Value.str x t, Value.str y u] : Array Value)[i]? = some v) : ∃ t, v = .str (twoAt x y i) t := by
  match i with
  | 0 => exact ⟨t, (Option.some.inj h).symm⟩
  | 1 => exact ⟨u, (Option.some.inj h).symm⟩
  | n + 2 => simp at h
theorem two_fresh {a b : Value} {c : Addr} (hc : c ∈ [(s.heap.push { cls := .type "tuple", data := .seq #[a, b] }).objs.size, s.heap.objs.size]) (o : Obj) : c < ((s.heap.push { cls := .type "tuple", data := .seq #[a, b] }).push o).objs.size := by
  have e1 : (s.heap.push { cls := .type "tuple", data := .seq #[a, b] }).objs.size = s.heap.objs.size + 1 := Heap.size_push ..
  have e2 : ((s.heap.push { cls := .type "tuple", data := .seq #[a, b] }).push o).objs.size = s.heap.objs.size + 1 + 1 := by rw [Heap.size_push, e1]
  rw [e1] at hc
  rw [e2]
  rcases List.mem_cons.mp hc with q | q
  · rw [q]; exact Nat.lt_succ_self _
  · rw [List.mem_singleton.mp q]; exact Nat.lt_succ_of_lt (Nat.lt_succ_self _)
theorem two_kept {a b : Value} {o' : Obj} {h' : Heap} (hk : ∀ b' o, b' ∉ [(s.heap.push { cls := .type "tuple", data := .seq #[a, b] }).objs.size] → ((s.heap.push { cls := .type "tuple", data := .seq #[a, b] }).push o').get? b' = some o → h'.get? b' = some o) : ∀ c o, s.heap.get? c = some o → h'.get? c = some o := fun c o e => by
  refine hk c o (fun hm => ?_) (Heap.get?_push_of_some _ (Heap.get?_push_of_some _ e))
  have e1 : (s.heap.push { cls := .type "tuple", data := .seq #[a, b] }).objs.size = s.heap.objs.size + 1 := Heap.size_push ..
  have lt := Heap.lt_size e
  rw [List.mem_singleton.mp hm, e1] at lt
  exact Nat.lt_irrefl _ (Nat.lt_of_succ_lt lt)
theorem min_two_txt {x y : Str} {t u : Tok} {Q : Value → Shared → Prop} (hh : A.handled = none) (h : ∀ h' tk, (∀ c o, s.heap.get? c = some o → h'.get? c = some o) → Q (if sLt y x = true then .str y u else .str x t) { s with heap := h', toks := tk }) :
    wpAny (model prog w) A (call (.builtin "min") [.str x t, .str y u]) Q E s := by
  have hT : (s.heap.push { cls := .type "tuple", data := .seq #[.str x t, .str y u] }).IsTuple s.heap.objs.size #[.str x t, .str y u] := ⟨_, Heap.get?_push_size _ rfl, rfl, 0, rfl⟩
  refine call_min_two (wpAny_pyIter_tuple hT ⟨_, [_, s.heap.objs.size], [_], _, _, _, _, rfl, Walks.tuple (A := A.in1) hh _ s.heap.objs.size (by rw [Heap.size_push]; exact Nat.ne_of_lt (Nat.lt_succ_self _)) #[.str x t, .str y u],
    ⟨⟨_, Heap.get?_push_size _ rfl, rfl, rfl⟩, hT.push _⟩, fun c hc => two_fresh hc _, by simp, cmpTxtLt (twoAt x y) (fun _ _ => twoAt_of), fun v h' tk hP hk => ?_⟩)
  have q := h h' tk (two_kept hk)
  have e : v = if sLt y x = true then Value.str y u else Value.str x t := by
    have hP' : (#[Value.str x t, Value.str y u] : Array Value)[argBest (fun i j => sLt (twoAt x y i) (twoAt x y j)) 1]? = some v := hP
    have eb : argBest (fun i j => sLt (twoAt x y i) (twoAt x y j)) 1 = if sLt y x = true then 1 else 0 := rfl
    rw [eb] at hP'
    cases hc : sLt y x with
    | true => rw [hc] at hP'; exact (Option.some.inj hP').symm
    | false => rw [hc] at hP'; exact (Option.some.inj hP').symm
  rw [e]
  exact q
theorem max_two_txt {x y : Str} {t u : Tok} {Q : Value → Shared → Prop} (hh : A.handled = none) (h : ∀ h' tk, (∀ c o, s.heap.get? c = some o → h'.get? c = some o) → Q (if sLt x y = true then .str y u else .str x t) { s with heap := h', toks := tk }) :
    wpAny (model prog w) A (call (.builtin "max") [.str x t, .str y u]) Q E s := by
  have hT : (s.heap.push { cls := .type "tuple", data := .seq #[.str x t, .str y u] }).IsTuple s.heap.objs.size #[.str x t, .str y u] := ⟨_, Heap.get?_push_size _ rfl, rfl, 0, rfl⟩
  refine call_max_two (wpAny_pyIter_tuple hT ⟨_, [_, s.heap.objs.size], [_], _, _, _, _, rfl, Walks.tuple (A := A.in1) hh _ s.heap.objs.size (by rw [Heap.size_push]; exact Nat.ne_of_lt (Nat.lt_succ_self _)) #[.str x t, .str y u],
    ⟨⟨_, Heap.get?_push_size _ rfl, rfl, rfl⟩, hT.push _⟩, fun c hc => two_fresh hc _, by simp, cmpTxtGt (twoAt x y) (fun _ _ => twoAt_of), fun v h' tk hP hk => ?_⟩)
  have q := h h' tk (two_kept hk)
  have e : v = if sLt x y = true then Value.str y u else Value.str x t := by
    have hP' : (#[Value.str x t, Value.str y u] : Array Value)[argBest (fun i j => sLt (twoAt x y j) (twoAt x y i)) 1]? = some v := hP
    have eb : argBest (fun i j => sLt (twoAt x y j) (twoAt x y i)) 1 = if sLt x y = true then 1 else 0 := rfl
    rw [eb] at hP'
    cases hc : sLt x y with
    | true => rw [hc] at hP'; exact (Option.some.inj hP').symm
    | false => rw [hc] at hP'; exact (Option.some.inj hP').symm
  rw [e]
  exact q
end
def rMinS : List V → Hp → VK → Prop := fun xs H Q => ∃ x y : Str, xs = [.str x, .str y] ∧ Q (.str (if sLt y x = true then y else x)) H
def rMaxS : List V → Hp → VK → Prop := fun xs H Q => ∃ x y : Str, xs = [.str x, .str y] ∧ Q (.str (if sLt x y = true then y else x)) H
section
variable {X : Cx}
theorem call_minS (hc : X.calm = true) : CallR X (.builtin "min") rMinS := by
  intro pins s σ H xs us Q I r h
  obtain ⟨x, y, rfl, q⟩ := h
  obtain ⟨u, w', rfl, ⟨t, rfl⟩, ⟨t', rfl⟩⟩ := vals2 r
  refine min_two_txt (I.ok.hd hc) fun h' tk k => ⟨_, H, I.kept k, ?_, q⟩
  cases hj : sLt y x
  · exact ⟨_, rfl⟩
  · exact ⟨_, rfl⟩
theorem call_maxS (hc : X.calm = true) : CallR X (.builtin "max") rMaxS := by
  intro pins s σ H xs us Q I r h
  obtain ⟨x, y, rfl, q⟩ := h
  obtain ⟨u, w', rfl, ⟨t, rfl⟩, ⟨t', rfl⟩⟩ := vals2 r
  refine max_two_txt (I.ok.hd hc) fun h' tk k => ⟨_, H, I.kept k, ?_, q⟩
  cases hj : sLt x y
  · exact ⟨_, rfl⟩
  · exact ⟨_, rfl⟩
end
/-! ### a set comprehension whose element is added by any rule of set.add -/
abbrev newSetObj (w : World) : Obj := { cls := .type "set", dict := none, data := .set #[] 0 (.fresh 0 0 (!w.params.followText "set-order")) }
def tScG (SO : Addr → HO) (r : V → List V → Hp → VK → Prop) (wi : TI) (g : TG) (tt : TT) (te : TE) (vs : List Nat) : TE := fun σ H Q => wi σ H fun J H1 => ∀ D, H1 D = none → ∃ W : Nat → Nat → Hp → Prop, (∃ m, W 0 m (upd H1 D (SO D))) ∧ ∀ i m H, W i m H →
  (J.stop i H ∧ Q (.ref D) H) ∨ (J.go i H ∧ ∃ Nx : Hp → Prop, (∀ H', Nx H' → ∃ m', m' < m ∧ W (i + 1) m' H') ∧ ∀ x H', J.yld i H x H' → g x (wipe σ vs) H' fun σ2 H2 => wipe σ2 vs = wipe σ vs ∧ tt σ2 H2 fun b H3 =>
    if b = true then te σ2 H3 fun y H4 => r (.ref D) [y] H4 (fun _ H5 => Nx H5) else Nx H3)
section
variable {X : Cx}
/-- what a new, empty set is tracked as -/
def Starts (P : Program) (w : World) (SO : Addr → HO) : Prop := ∀ (H : Hp) (h : Heap) (D : Addr), h.get? D = some (newSetObj w) → ObjOk P w H h D (SO D)
theorem pe_scG {SO : Addr → HO} {r : V → List V → Hp → VK → Prop} {elt tg iter : Expr} {ifs : List Expr} {scope : Scope} {own : List (PySem.Str × Nat)} {pos : Pos} {wi : TI} {g : TG} {tt : TT} {te : TE}
    (hSO : Starts X.prog X.w SO) (hc : X.calm = true) (hN : X.N.Nodup) (hi : PI X tg iter wi) (ok : BlkOk X.N X.env.scope scope own)
    (hg : ∀ (s : Shared) (H : Hp) (C : Addr) (cl : List (PySem.Str × Addr)) (fp : List Addr), PG (X.blk s H scope (compEnvC scope cl C X.env) fp) tg g)
    (ht : ∀ (s : Shared) (H : Hp) (C : Addr) (cl : List (PySem.Str × Addr)) (fp : List Addr), PTs (X.blk s H scope (compEnvC scope cl C X.env) fp) ifs tt)
    (he : ∀ (s : Shared) (H : Hp) (C : Addr) (cl : List (PySem.Str × Addr)) (fp : List Addr), PE (X.blk s H scope (compEnvC scope cl C X.env) fp) elt te)
    (ha : ∀ (s : Shared) (H : Hp) (C : Addr) (cl : List (PySem.Str × Addr)) (fp : List Addr), MtR (X.blk s H scope (compEnvC scope cl C X.env) fp) "set.add" r)
    (hs : ∀ x, foldedSetIterable iter X.env x = pure x := by intro _; rfl) : PE X (.SetComp elt [⟨tg, iter, ifs, 0⟩] scope pos) (tScG SO r wi g tt te (own.map (·.2))) := by
  refine ⟨fun pins s σ H Q I h => ?_⟩
  rw [PpSet.eval_SetComp]
  have free : ∀ y ∈ scope.names, y.2 = .free → ∃ c, X.env.cells.lookup y.1 = some c := fun y hy e => (ok.free y hy e).elim (fun k => I.ok.has _ (.inl k)) (fun k => I.ok.has _ (.inr k))
  refine wpAny_comprehension_free (use := none) rfl hs (closure_ok free) ok.kind (fun y hy e => by rw [ok.uniq y hy, e]) (thn (hi.run pins s σ H _ I h) fun xv s1 hx => thn hx fun itv s2 ⟨it, fp, tn, J, H2, e, I2, T, st2, f2, q⟩ => ?_)
  subst e
  refine PpSet.newSet_ok (newEnv_comp ?_)
  generalize eD : s2.heap.objs.size = D
  obtain ⟨W, ⟨m0, w0⟩, turn⟩ := q D (I2.hok.fresh (Nat.le_of_eq eD))
  generalize e3 : ({ s2 with heap := s2.heap.push (newSetObj X.w) } : Shared) = s3
  have k3 : s3.heap = s2.heap.push (newSetObj X.w) := by rw [← e3]
  generalize eH : upd H2 D (SO D) = H3 at w0
  have I3 : Inv X pins σ H3 s3 := by
    rw [← e3, ← eH]
    exact I2.laid (t' := s2.toks) (fun b o e => Heap.get?_push_of_some _ e) (Nat.le_of_eq eD) (hSO _ _ D (by rw [← eD]; exact Heap.get?_push_size _ rfl))
  have f3 : ∀ b ∈ fp, FpOk X pins H3 b ∧ b < s3.heap.objs.size := fun b hb => by
    obtain ⟨o, eo, _⟩ := T.obj _ _ st2 b hb
    have lt := Heap.lt_size eo
    refine ⟨⟨?_, (f2 b hb).2⟩, by rw [k3, Heap.size_push]; exact Nat.lt_succ_of_lt lt⟩
    rw [← eH, upd_ne (by rw [← eD]; exact Nat.ne_of_lt lt)]
    exact (f2 b hb).1
  have I4 := block_start I3 ok hN f3
  have st3 : tn 0 s3.heap := T.keep _ _ _ st2 fun b _ o e => by rw [k3]; exact Heap.get?_push_of_some _ e
  generalize ecl : cellsFrom (s3.heap.objs.size + 1) scope.names (cloFrom X.env.cells scope.names []) = cl at I4 ⊢
  have pg := hg s3 H3 s3.heap.objs.size cl fp
  have pt := ht s3 H3 s3.heap.objs.size cl fp
  have pe := he s3 H3 s3.heap.objs.size cl fp
  have pa := ha s3 H3 s3.heap.objs.size cl fp
  show codeAny _ _ (.compStart (.SetComp elt [⟨tg, iter, ifs, 0⟩] scope pos) 0 (.ref it) (.ref D) (compEnvC scope cl s3.heap.objs.size X.env)) (compPost (model X.prog X.w) X.A X.xe none _ (.ref D) s3.heap.objs.size) { s3 with heap := pushCells (s3.heap.push { cls := .type "dict", data := .dict #[] }) scope.names }
  generalize ece : compEnvC scope cl s3.heap.objs.size X.env = ce at I4 pg pt pe pa ⊢
  have eL : ce.locals = s3.heap.objs.size := by rw [← ece]; rfl
  generalize e4 : ({ s3 with heap := pushCells (s3.heap.push { cls := .type "dict", data := .dict #[] }) scope.names } : Shared) = s4 at I4 ⊢
  have st4 : tn 0 s4.heap := T.keep _ _ _ st3 fun b _ o e => by rw [← e4]; exact pushCells_keeps _ _ _ _ (Heap.get?_push_of_some _ e)
  have stat : ∀ {σ' : L2.St} {H' : Hp} {s' : Shared}, Inv (X.blk s3 H3 scope ce fp) [] σ' H' s' → (∀ b ∈ fp, H' b = none) → ∀ b ∈ fp, FpOk (X.blk s3 H3 scope ce fp) [] H' b := fun {σ' H' s'} J' hn b hb =>
    ⟨hn b hb, (J'.ok.exf b hb).1, J'.ok.exfs b hb, .inl hb, fun x c e => (J'.ok.exf b hb).2 x c e, fun p hp => absurd (show p ∈ ([] : List (Addr × Obj)) ++ [] from hp) (by simp)⟩
  have loop : codeAny (model X.prog X.w) X.A (.compLoop (.SetComp elt [⟨tg, iter, ifs, 0⟩] scope pos) 0 (.ref it) (.ref D) ce) (compPost (model X.prog X.w) X.A X.xe none (EP X pins σ Q) (.ref D) s3.heap.objs.size) s4 := by
    refine PpSet.compLoopS_any (fun n s' => ∃ i H', Inv (X.blk s3 H3 scope ce fp) [] (wipe σ (own.map (·.2))) H' s' ∧ tn i s'.heap ∧ (∀ b ∈ fp, H' b = none) ∧ W i n H') ?_ m0 ⟨0, H3, I4, st4, fun b hb => (f3 b hb).1.1, w0⟩
    rintro n s5 ⟨i, H5, I5, st5, n5, w5⟩
    rcases turn i n H5 w5 with ⟨stop, qq⟩ | ⟨go, Nx, hNx, step⟩
    · refine thnF (T.done (X.blk s3 H3 scope ce fp) rfl rfl rfl hc i [] s5 _ H5 (fun _ _ => False) I5 (stat I5 n5) st5 stop) fun rr s6 ⟨hr, I6⟩ => ?_
      subst hr
      have I7 : Inv X pins σ H5 s6 := I3.call' (ch := fp) I6.os I6.base I6.hok I6.bare fun b hb => ⟨(f3 b hb).1.2.2.2.1, (f3 b hb).1.2.1, (f3 b hb).1.2.2.2.2.1, (f3 b hb).1.2.2.2.2.2⟩
      have nC : H5 s3.heap.objs.size = none := by rw [← eL]; exact I6.free
      obtain ⟨mm, hn, _⟩ := I6.loc
      have hn : s6.heap.Ns ce.locals mm := hn
      rw [eL] at hn
      obtain ⟨u0, u1, u2, u3, u4, u5⟩ := I3.fpOk (Nat.le_refl _) nC
      exact ⟨mm, hn, fun h'' sb => ⟨.ref D, H5, I7.turned (t' := s6.toks) (fun b o hb e => (sb.2 b hb).trans e) u0 u1 u3 u4 u5, rfl, qq⟩⟩
    · refine thnF (T.item (X.blk s3 H3 scope ce fp) rfl rfl rfl hc i [] s5 _ H5 (fun _ _ => False) I5 (stat I5 n5) st5 go) fun rr s6 ⟨u, hr, h6⟩ => ?_
      subst hr
      refine thnF h6 fun _ s7 ⟨x, H7, I7, r7, y7, st7, n7⟩ => ?_
      have I7' := I7.pinned (stat I7 n7) (T.obj _ _ st7)
      have fin : ∀ {s' : Shared} {H' : Hp} {σ8 : L2.St}, wipe σ8 (own.map (·.2)) = wipe σ (own.map (·.2)) → Inv (X.blk s3 H3 scope ce fp) ([] ++ pinsAt fp s7.heap) σ8 H' s' → Nx H' → ∃ m, m < n ∧ ∃ i H', Inv (X.blk s3 H3 scope ce fp) [] (wipe σ (own.map (·.2))) H' s' ∧ tn i s'.heap ∧ (∀ b ∈ fp, H' b = none) ∧ W i m H' := fun {s' H' σ8} hw8 I' nx => by
        obtain ⟨m', hm, w'⟩ := hNx H' nx
        have held : ∀ b ∈ fp, ∀ o, s7.heap.get? b = some o → s'.heap.get? b = some o ∧ H' b = none := fun b hb o e => by
          have z := I'.pin (b, o) (List.mem_append_right _ (List.mem_append_right _ (mem_pinsAt hb e)))
          exact ⟨z.1, z.2.1⟩
        refine ⟨m', hm, i + 1, H', (I'.unpinned (pins := [])).weak (by rw [← hw8, wipe_length]) (fun j v e => (wipe_some (hw8 ▸ e)).1), T.keep _ _ _ st7 fun b hb o e => (held b hb o e).1, fun b hb => ?_, w'⟩
        obtain ⟨o, e, _⟩ := T.obj _ _ st7 b hb
        exact (held b hb o e).2
      refine thnF (pg.run _ s7 _ H7 x u _ I7' r7 (step x H7 y7)) fun _ s8 ⟨σ8, H8, I8, hw8, q8⟩ => thnF (pt.run _ s8 σ8 H8 _ I8 q8) fun b s9 ⟨H9, I9, q9⟩ => ?_
      cases b with
      | false => simp only [Bool.false_eq_true, if_false] at q9 ⊢; exact fin hw8 I9 q9
      | true =>
        simp only [if_true] at q9 ⊢
        refine thnF (pe.run _ s9 σ8 H9 _ I9 q9) fun z s10 ⟨yv, H10, I10, r10, nx⟩ => ?_
        exact thnF (pa _ s10 σ8 H10 (.ref D) [yv] (.ref D) [z] _ I10 rfl (.cons r10 .nil) nx) fun _ s11 ⟨_, H11, I11, _, n11⟩ => fin hw8 I11 n11
  exact PpSet.codeAny_compStart_set loop (T.self X.A 0 _ _ _ st4 loop)
end
end Zk
set_option Elab.async false
set_option linter.all false
set_option maxRecDepth 100000
set_option maxHeartbeats 4000000
/-! Sets of tuples of texts and ints: a table over the library's words on tables (TabOk, go_spec, relaid_ok). -/
namespace Zk
open PySem PySem.Spec PyProof.Rows L2
abbrev TKey := List Key
abbrev kh (P : Program) (w : World) (k : TKey) : Int := tupleKeyHash (mixKind P w) k
abbrev IsP (P : Program) (w : World) (h : Heap) (k : TKey) (a : Addr) : Prop := IsTupleKey (mixKind P w) h k a
abbrev pr (t : SetTable) (h : Int) (c : Nat) : SetTable.Probe := nth t.mask (runAt t.mask (SetTable.bits h % (t.mask + 1)) (SetTable.bits h)) c
/-- the table's entries of these members -/
abbrev ents (P : Program) (w : World) (L : List (Addr × TKey)) : List (Int × Value) := L.map fun m => (kh P w m.2, Value.ref m.1)
abbrev hshs (P : Program) (w : World) (L : List (Addr × TKey)) : List Int := L.map fun m => kh P w m.2
def Flat (v : Value) : Prop := (∃ i t, v = Value.int i t) ∨ ∃ x t, v = Value.str x t
section
variable {P : Program} {w : World} {A : Around} {E : Value → Shared → Prop} {s : Shared}
theorem flat_items {k : TKey} {vs : List Value} (h : ItemsAre (mixKind P w) k vs) : ∀ v ∈ vs, Flat v := by
  induction h with
  | nil => exact fun v hv => nomatch hv
  | cons h1 _ ih =>
    intro v hv
    cases List.mem_cons.mp hv with
    | inr z => exact ih v z
    | inl z =>
      rw [z]
      rcases keyIs_shape h1 with ⟨i, t, _, e⟩ | ⟨x, t, _, e⟩
      · exact .inl ⟨i, t, e⟩
      · exact .inr ⟨x, t, e⟩
theorem flat_cls (n : Nat) {v : Value} (f : Flat v) : ofAClassStatement n v = pure false := by
  rcases f with ⟨i, t, rfl⟩ | ⟨x, t, rfl⟩ <;> cases n <;> rfl
theorem flat_hash (n : Nat) {v : Value} (f : Flat v) : ∃ b, hashByValue n v = pure b := by
  rcases f with ⟨i, t, rfl⟩ | ⟨x, t, rfl⟩
  · exact ⟨true, by cases n <;> rfl⟩
  · exact ⟨false, by cases n <;> rfl⟩
/-- a tuple of such is of no class statement -/
theorem cls_tup {k : TKey} {b : Addr} {Q : Bool → Shared → Prop} (hk : IsP P w s.heap k b) (h : Q false s) : wpAny (model P w) A (ofAClassStatement 8 (.ref b)) Q E s := by
  have ty := hk.typeIs
  obtain ⟨o, items, n, ho, _, hd, its⟩ := hk
  have fl := flat_items its
  unfold ofAClassStatement
  refine wpAny_bind (wpAny_typeOf ty ?_); dsimp only
  simp only [show (("tuple" : String) == "tuple") = true by decide, if_true, Bool.not_true, Bool.false_eq_true, if_false]
  try (refine wpAny_bind (wpAny_pure ?_); try simp only [Bool.not_true, Bool.false_eq_true, if_false])
  show wpAny (model P w) A (seqItems? (.ref b) >>= _) _ E s
  refine wpAny_bind (wpAny_seqItems ho hd ?_); dsimp only
  refine wpAny_bind ?_
  show wpAny (model P w) A (forIn items _ _) _ E s
  rw [← Array.forIn_toList]
  refine wpAny_forIn_list _ (fun left r s' => (∀ v ∈ left, Flat v) ∧ s' = s ∧ r.1 = none) _ ?_ ?_ _ _ ⟨fl, rfl, rfl⟩
  · rintro v left r s' ⟨al, rfl, hr⟩
    rw [flat_cls _ (al v List.mem_cons_self)]
    refine wpAny_bind (wpAny_pure ?_); simp only [Bool.false_eq_true, if_false]
    exact wpAny_pure ⟨fun u hu => al u (List.mem_cons_of_mem _ hu), rfl, rfl⟩
  · rintro ⟨r1, r2⟩ s' ⟨_, rfl, hr⟩
    cases (show r1 = none from hr)
    exact wpAny_pure h
/-- whether its hash is by value is told -/
theorem hashed_tup {k : TKey} {b : Addr} {Q : Bool → Shared → Prop} (hk : IsP P w s.heap k b) (h : ∀ c, Q c s) : wpAny (model P w) A (hashByValue 8 (.ref b)) Q E s := by
  have ty := hk.typeIs
  obtain ⟨o, items, n, ho, _, hd, its⟩ := hk
  have fl := flat_items its
  unfold hashByValue
  refine wpAny_bind (wpAny_specialOf ty F.slot_tuple_hash.lookup ?_)
  show wpAny (model P w) A (seqItems? (.ref b) >>= _) _ E s
  refine wpAny_bind (wpAny_seqItems ho hd (wpAny_bind ?_))
  show wpAny (model P w) A (forIn items _ _) _ E s
  rw [← Array.forIn_toList]
  refine wpAny_forIn_list _ (fun left r s' => (∀ v ∈ left, Flat v) ∧ s' = s ∧ r.1 = none) _ ?_ ?_ _ _ ⟨fl, rfl, rfl⟩
  · rintro v left r s' ⟨al, rfl, hr⟩
    obtain ⟨c, e⟩ := flat_hash 7 (al v List.mem_cons_self)
    rw [e]
    refine wpAny_bind (wpAny_pure ?_)
    cases c with
    | true => simp only [Bool.not_true, Bool.false_eq_true, if_false]; exact wpAny_pure ⟨fun u hu => al u (List.mem_cons_of_mem _ hu), rfl, rfl⟩
    | false => simp only [Bool.not_false, if_true]; exact wpAny_pure (wpAny_pure (h false))
  · rintro ⟨r1, r2⟩ s' ⟨_, rfl, hr⟩
    cases (show r1 = none from hr)
    exact wpAny_pure (h true)
/-- nothing is shown by a search among such tuples -/
theorem unseen {k : TKey} {b : Addr} {Q : Bool → Shared → Prop} (hk : IsP P w s.heap k b) {ys : List Value} (hy : ∀ y ∈ ys, ∃ k' c, y = Value.ref c ∧ IsP P w s.heap k' c) (h : Q false s) : wpAny (model P w) A (searchCouldBeSeen (.ref b) ys) Q E s := by
  unfold searchCouldBeSeen
  refine wpAny_bind (wpAny_forIn_list _ (fun left r s' => (∀ y ∈ left, ∃ k' c, y = Value.ref c ∧ IsP P w s.heap k' c) ∧ s' = s ∧ r.1 = none) _ ?_ ?_ _ _ ⟨hy, rfl, rfl⟩)
  · rintro v left r s' ⟨al, rfl, hr⟩
    obtain ⟨k', c, rfl, ic⟩ := al v List.mem_cons_self
    have al' : ∀ y ∈ left, ∃ k' c, y = Value.ref c ∧ IsP P w s'.heap k' c := fun u hu => al u (List.mem_cons_of_mem _ hu)
    dsimp only
    by_cases hv : (b == c || (carriedByValue (.ref b) && carriedByValue (.ref c))) = true
    · exact wp_if_pos hv (wpAny_pure ⟨al', rfl, rfl⟩)
    · refine wp_if_neg hv (wpAny_bind (wpAny_eqIsQuiet_tuple hk ?_)); simp only [Bool.not_true, Bool.false_eq_true, if_false]
      refine wpAny_bind (wpAny_eqIsQuiet_tuple ic ?_); simp only [Bool.not_true, Bool.false_eq_true, if_false]
      refine wpAny_bind (cls_tup hk ?_); simp only [Bool.false_eq_true, if_false]
      refine wpAny_bind (cls_tup ic ?_); simp only [Bool.false_eq_true, if_false]
      exact wpAny_pure ⟨al', rfl, rfl⟩
  · rintro ⟨r1, r2⟩ s' ⟨_, rfl, hr⟩
    cases (show r1 = none from hr)
    exact wpAny_pure h
/-- the set at a, its members L in the table's order -/
structure PSet (P : Program) (w : World) (h : Heap) (a : Addr) (L : List (Addr × TKey)) (es : Array (Int × Value)) (ep : Nat) (t : SetTable) : Prop where
  obj : ∃ o, h.get? a = some o ∧ o.ExactSet ∧ o.data = .set es ep t
  row : es.toList = ents P w L
  tab : TabOk t (hshs P w L)
  one : (L.map (·.2)).Nodup
  key : ∀ m ∈ L, IsP P w h m.2 m.1
  led : w.params.followText "set-order" = true ∨ t.led = true
  room : L.length * 5 < t.mask * 3
  few : L.length < 64
variable {a : Addr} {L : List (Addr × TKey)} {es : Array (Int × Value)} {ep : Nat} {t : SetTable}
theorem ents_size (h : es.toList = ents P w L) : es.size = L.length := by
  rw [← Array.length_toList, h, List.length_map]
theorem fits_of (h1 : t.place.size = es.size) (h2 : t.dummies = #[]) (h3 : es.size ≤ t.mask) : t.fits es.size = true := by
  unfold SetTable.fits SetTable.fill
  rw [h2, Bool.and_eq_true, beq_iff_eq, decide_eq_true_eq]
  exact ⟨h1, by show t.place.size + 0 ≤ t.mask; omega⟩
theorem PSet.place (R : PSet P w s.heap a L es ep t) : t.place.size = L.length := by
  rw [R.tab.sz, List.length_map]
theorem PSet.fits (R : PSet P w s.heap a L es ep t) : t.fits es.size = true := by
  have h1 := R.place
  have h2 := ents_size R.row
  have h3 := R.room
  exact fits_of (by omega) R.tab.dm (by omega)
theorem PSet.at (R : PSet P w s.heap a L es ep t) {i : Nat} {m : Addr × TKey} (h : L[i]? = some m) : es[i]? = some (kh P w m.2, Value.ref m.1) := by
  rw [← Array.getElem?_toList, R.row, List.getElem?_map, h] <;> rfl
theorem PSet.stays (R : PSet P w s.heap a L es ep t) : ¬ t.gaveWay = true := by
  unfold SetTable.gaveWay
  rw [mask_odd R.tab.mok]
  decide
theorem pr_add (t : SetTable) (h : Int) (c q : Nat) : nth t.mask (pr t h c) q = pr t h (c + q) := (nth_add t.mask c _ q).symm
theorem pr_dm (t : SetTable) (h : Int) (c : Nat) : (pr t h c).dummy = none := by
  have all : ∀ (n : Nat) (p : SetTable.Probe), p.dummy = none → (nth t.mask p n).dummy = none := by
    intro n
    induction n with
    | zero => exact fun p h => h
    | succ n ih => exact fun p h => ih (adv t.mask p) (by unfold adv; split <;> exact h)
  exact all c _ rfl
/-- the search, from its c-th step on: n the first free step -/
theorem srch (R : PSet P w s.heap a L es ep t) {x : Addr} {k : TKey} (hx : IsP P w s.heap k x) (hu : A.units < cLine) {n : Nat} (hn : n < 10 * SetTable.turns t.mask)
    (fr : (pr t (kh P w k) n).j ∉ t.place.toList) (bs : ∀ c, c < n → (pr t (kh P w k) c).j ∈ t.place.toList) {Q : SetFound → Shared → Prop} (yes : k ∈ L.map (·.2) → Q (.there none) s) (no : k ∉ L.map (·.2) → Q (.free (pr t (kh P w k) n).j false) s) (f : Nat) :
    ∀ (c : Nat) (stand : Option SetTable.Probe), stand.getD (t.probeStart (kh P w k)) = pr t (kh P w k) c → c ≤ n → n - c < f →
      (∀ (i : Nat) m, L[i]? = some m → m.2 = k → ∃ c', c ≤ c' ∧ c' < n ∧ t.place.toList[i]? = some (pr t (kh P w k) c').j) → wpAny (model P w) A (setSearchFrom a (.ref x) (kh P w k) true f stand) Q E s := by
  induction f with
  | zero => exact fun c _ _ _ z _ => absurd z (Nat.not_lt_zero _)
  | succ f ih =>
    intro c stand hst hc hf ahead
    obtain ⟨o, ho, hex, hd⟩ := R.obj
    generalize eh : kh P w k = hv at *
    rw [setSearchFrom_succ]
    refine wpAny_bind (wpAny_setState_of ho hd R.fits (wp_if_neg R.stays ?_))
    try refine wpAny_bind (wpAny_pure ?_)
    have hat : ∀ (i : Nat) m, L[i]? = some m → (es[i]?.map (·.1)).getD 0 = kh P w m.2 := fun i m hm => by rw [R.at hm] <;> rfl
    have spec := go_spec t R.tab.ris R.tab.dm (fun i => (es[i]?.map (·.1)).getD 0) hv (10 * SetTable.turns t.mask) (n - c) (pr t hv c) (pr_dm t hv c) (by omega)
      (fun q hq => by rw [pr_add]; exact bs (c + q) (by omega)) (by rw [pr_add, show c + (n - c) = n by omega]; exact fr)
    have passed : ∀ q, (∀ (k' i' : Nat), k' < q → t.place.toList[i']? = some (nth t.mask (pr t hv c) k').j → (es[i']?.map (·.1)).getD 0 ≠ hv) → ∀ (i : Nat) m c', L[i]? = some m → m.2 = k → c ≤ c' → t.place.toList[i]? = some (pr t hv c').j → c + q ≤ c' := fun q nq i m c' hm hk h1 h2 => by
      rcases Nat.lt_or_ge c' (c + q) with z | z
      · exfalso
        refine nq (c' - c) i (by omega) (by rw [pr_add, show c + (c' - c) = c' by omega]; exact h2) ?_
        rw [hat i m hm, hk, eh]
      · exact z
    rcases spec with ⟨q, i, hq, hi, hh, nq, go⟩ | ⟨nq, go⟩
    · rw [pr_add, pr_add] at go
      rw [pr_add] at hi
      have go' : t.probe (fun i => (es[i]?.map (·.1)).getD 0) hv (stand.getD (t.probeStart hv)) = some (.candidate (pr t hv (c + q)).j i (pr t hv (c + (q + 1)))) := by rw [hst]; exact go
      rw [go']
      dsimp only
      have il : i < L.length := by
        have z := (List.getElem?_eq_some_iff.mp hi).1
        rw [Array.length_toList, R.place] at z
        exact z
      obtain ⟨m, hm⟩ : ∃ m, L[i]? = some m := ⟨_, List.getElem?_eq_getElem il⟩
      have mem : m ∈ L := List.mem_of_getElem? hm
      have live : t.slot (pr t hv (c + q)).j = .live i := slot_live R.tab.ris hi
      have rest : wpAny (model P w) A (searchRest a (.ref x) hv true f es t (pr t hv (c + q)).j i (pr t hv (c + (q + 1)))) Q E s := by
        unfold searchRest
        rw [R.at hm]
        refine wpAny_bind (wpAny_holding (wpAny_eqBool_tuple hu (R.key m mem) hx (wpAny_bind (wpAny_setState_of ho hd R.fits ?_))))
        dsimp only
        by_cases same : m.2 = k
        · exact wp_if_pos (by simp [same]) (wpAny_pure (yes (List.mem_map.mpr ⟨m, mem, same⟩)))
        · refine wp_if_neg (by simp [same]) ?_
          try refine wpAny_bind (wpAny_pure ?_)
          rw [sameMem]
          simp only [if_true, live, R.at hm]
          refine wpAny_bind (wpAny_isSame_ref_self (wpAny_bind (wpAny_pure ?_)))
          simp only [if_true]
          refine wp_if_neg (by simp [same]) (ih (c + (q + 1)) _ rfl (by omega) (by omega) fun j m' hj hk => ?_)
          obtain ⟨c', a1, a2, a3⟩ := ahead j m' hj hk
          have ge := passed q nq j m' c' hj hk a1 a3
          refine ⟨c', ?_, a2, a3⟩
          rcases Nat.lt_or_ge (c + q) c' with y | y
          · omega
          · exfalso
            rw [Nat.le_antisymm y ge] at a3
            have l2 := slot_live R.tab.ris a3
            rw [live] at l2
            injection l2 with l2
            rw [← l2, hm] at hj
            cases hj
            exact same hk
      by_cases ld : t.led = true
      · refine wp_if_neg (by simp [ld]) ?_
        try refine wpAny_bind (wpAny_pure ?_)
        exact rest
      · refine wp_if_pos (by simp [ld]) (wpAny_bind (unseen hx (fun y hy => ?_) (wp_if_neg (by decide) ?_)))
        · obtain ⟨e, he, ee⟩ := List.mem_map.mp hy
          have he1 : e ∈ es ∧ e.1 = hv := by simpa using he
          have he2 : e ∈ es.toList := by simpa using he1.1
          rw [R.row] at he2
          obtain ⟨m2, hm2, e2⟩ := List.mem_map.mp he2
          exact ⟨m2.2, m2.1, by rw [← ee, ← e2], R.key m2 hm2⟩
        · try refine wpAny_bind (wpAny_pure ?_)
          exact rest
    · rw [pr_add, show c + (n - c) = n by omega] at go
      have go' : t.probe (fun i => (es[i]?.map (·.1)).getD 0) hv (stand.getD (t.probeStart hv)) = some (.empty (pr t hv n).j none) := by rw [hst]; exact go
      rw [go']
      refine wpAny_pure (no fun hm => ?_)
      obtain ⟨m, h0, hk⟩ := List.mem_map.mp hm
      obtain ⟨j, hj⟩ := List.mem_iff_getElem?.mp h0
      obtain ⟨c', a1, a2, a3⟩ := ahead j m hj hk
      have ge := passed (n - c) nq j m c' hj hk a1 a3
      omega
/-- the search as adding asks for it -/
theorem srch_at (R : PSet P w s.heap a L es ep t) {x : Addr} {k : TKey} (hx : IsP P w s.heap k x) (hu : A.units < cLine) {Q : SetFound → Shared → Prop} (yes : k ∈ L.map (·.2) → Q (.there none) s)
    (no : ∀ n, k ∉ L.map (·.2) → (pr t (kh P w k) n).j ∉ t.place.toList → (∀ c, c < n → (pr t (kh P w k) c).j ∈ t.place.toList) → Q (.free (pr t (kh P w k) n).j false) s) : wpAny (model P w) A (setSearch a (.ref x) (kh P w k) true) Q E s := by
  have room := R.room
  obtain ⟨n, hn, fr, bs⟩ := R.tab.first (by rw [List.length_map]; omega) (kh P w k)
  have lt : n < 100000 := by
    have le : 10 * SetTable.turns t.mask ≤ 1420 := by unfold SetTable.turns; rcases R.tab.mok with e | e | e <;> omega
    omega
  unfold setSearch
  refine srch R hx hu hn fr bs yes (fun z => no n z fr bs) 100000 0 none rfl (Nat.zero_le _) (by omega) fun i m hm hk => ?_
  have il : i < t.place.toList.length := by rw [Array.length_toList, R.place]; exact (List.getElem?_eq_some_iff.mp hm).1
  have hj := List.getElem?_eq_getElem il
  obtain ⟨c, hc, e⟩ := R.tab.before fr (show (hshs P w L)[i]? = some (kh P w k) by rw [List.getElem?_map, hm, ← hk]; rfl) hj
  exact ⟨c, Nat.zero_le _, hc, hj.trans (congrArg some e.symm)⟩
theorem isP_same {h h' : Heap} {k : TKey} {b : Addr} {o : Obj} (hb : IsP P w h k b) (ho : h.get? a = some o) (hd : o.data = .set es ep t) (sb : Heap.SameBut a h h') : IsP P w h' k b := by
  obtain ⟨o', items, n, ho', hc, hd', its⟩ := hb
  refine ⟨o', items, n, (sb.2 b fun z => ?_).trans ho', hc, hd', its⟩
  rw [z, ho] at ho'
  cases ho'
  rw [hd] at hd'
  cases hd'
theorem range_pick {α : Type} : ∀ l : List α, (List.range l.length).filterMap (fun i => l[i]?) = l
  | [] => rfl
  | x :: l => by
    rw [List.length_cons, List.range_succ_eq_map, List.filterMap_cons_some (f := fun i => (x :: l)[i]?) (b := x) rfl, List.filterMap_map]
    exact congrArg (x :: ·) (range_pick l)
theorem ents_order {order : Array Nat} (row : es.toList = ents P w L) (hp : order.toList.Perm (List.range L.length)) :
    ∃ L2, (order.filterMap (es[·]?)).toList = ents P w L2 ∧ L2.Perm L ∧ hshs P w L2 = order.toList.map fun i => (es.map (·.1)).getD i 0 := by
  have at' : ∀ i : Nat, es[i]? = (L[i]?).map fun m => (kh P w m.2, Value.ref m.1) := fun i => by rw [← Array.getElem?_toList, row, List.getElem?_map]
  refine ⟨order.toList.filterMap fun i => L[i]?, ?_, ?_, ?_⟩
  · have e1 : (order.filterMap (es[·]?)).toList = order.toList.filterMap fun i => es[i]? := by first | rw [Array.toList_filterMap] | simp
    rw [e1]
    show _ = List.map _ _
    rw [List.map_filterMap]
    exact congrArg (List.filterMap · order.toList) (funext at')
  · have z := hp.filterMap fun i => L[i]?
    rw [range_pick] at z
    exact z
  · show List.map _ _ = _
    rw [List.map_filterMap]
    have each : ∀ i ∈ order.toList, (L[i]?).map (fun m => kh P w m.2) = some ((es.map (·.1)).getD i 0) := fun i hi => by
      have il : i < L.length := List.mem_range.mp (hp.mem_iff.mp hi)
      have e5 : (es.map (·.1))[i]? = some (kh P w (L[i]).2) := by rw [Array.getElem?_map, at' i, List.getElem?_eq_getElem il]; rfl
      rw [List.getElem?_eq_getElem il, Array.getD_eq_getD_getElem?, e5]
      rfl
    generalize order.toList = l at each
    induction l with
    | nil => rfl
    | cons i l ih =>
      rw [List.filterMap_cons_some (f := fun (x : Nat) => Option.map (fun (m : Addr × TKey) => kh P w m.2) L[x]?) (each i List.mem_cons_self), List.map_cons, ih fun j hj => each j (List.mem_cons_of_mem _ hj)]
/-- the table laid anew -/
theorem relay {o : Obj} (ho : s.heap.get? a = some o) (hex : o.ExactSet) (hd : o.data = .set es ep t) (row : es.toList = ents P w L) (pl : t.place.size = es.size) (dm : t.dummies = #[]) (le : es.size ≤ t.mask) (one : (L.map (·.2)).Nodup)
    (key : ∀ m ∈ L, IsP P w s.heap m.2 m.1) (led : w.params.followText "set-order" = true ∨ t.led = true) (few : L.length < 64) {wanted M : Nat} (hw : SetTable.sizeAbove wanted - 1 = M) (hM : MaskOk M) (h128 : SetTable.sizeAbove wanted ≤ 128) (hn : L.length * 5 < M * 3)
    {Q : Unit → Shared → Prop} (hQ : ∀ h' L' es' ep' t', Heap.SameBut a s.heap h' → PSet P w h' a L' es' ep' t' → L'.Perm L → Q () { s with heap := h' }) : wpAny (model P w) A (setRelay a wanted) Q E s := by
  have size := ents_size row
  obtain ⟨t', order, e, hp, T, em, el, _, ed⟩ := relaid_ok t (hs := es.map (·.1)) (wanted := wanted) hw hM (by rw [Array.size_map, size]; omega)
  rw [Array.size_map, size] at hp
  obtain ⟨L2, r1, r2, r3⟩ := ents_order row hp
  rw [← r3] at T
  have size2 : (order.filterMap (es[·]?)).size = es.size := by rw [ents_size r1, r2.length_eq, size]
  rw [setRelay_eq]
  refine wpAny_bind (wpAny_setState_of ho hd (fits_of pl dm le) (wp_if_neg (by rw [sizeLine_eq]; omega) ?_))
  try refine wpAny_bind (wpAny_pure ?_)
  rw [e]
  refine wpAny_bind (wp_if_neg (by rw [size2]; simp) ?_)
  try refine wpAny_bind (wpAny_pure ?_)
  refine wpAny_pure (wpAny_storeSet_of ho hd ?_ (by rw [size2, size, sizeLine_eq]; omega))
  have sb : Heap.SameBut a s.heap (s.heap.update a (Obj.putSet (order.filterMap (es[·]?)) t')) := Heap.SameBut.update ..
  exact hQ _ L2 (order.filterMap (es[·]?)) (ep + 1) t' sb ⟨⟨_, store_at ho hd, ⟨hex.1, hex.2.1, hex.2.2⟩, rfl⟩, r1, T, (r2.map (·.2)).nodup_iff.mpr one, fun m hm => isP_same (key m (r2.mem_iff.mp hm)) ho hd sb, by rw [el]; exact led, by rw [r2.length_eq, em]; exact hn, by rw [r2.length_eq]; exact few⟩ r2
theorem tab_plain {hs : List Int} (T : TabOk t hs) (b : Bool) : TabOk (if b = true then t else { t with plain := false }) hs := by
  cases b with
  | true => exact T
  | false => exact ⟨T.ris, T.dm, T.sz, T.mok, T.bd, T.reach⟩
/-- a member is added -/
theorem add (R : PSet P w s.heap a L es ep t) {x : Addr} {k : TKey} (hx : IsP P w s.heap k x) (hu : A.units < cLine) (few : L.length + 1 < 64) {Q : Bool → Shared → Prop}
    (hQ : ∀ b h' L' es' ep' t', Heap.SameBut a s.heap h' → PSet P w h' a L' es' ep' t' → (k ∈ L.map (·.2) → L' = L) → (k ∉ L.map (·.2) → L'.Perm ((x, k) :: L)) → Q b { s with heap := h' }) : wpAny (model P w) A (setAddHashed a (.ref x) (kh P w k)) Q E s := by
  obtain ⟨o, ho, hex, hd⟩ := R.obj
  have size := ents_size R.row
  have room := R.room
  unfold setAddHashed
  rw [show (100000 : Nat) = 99999 + 1 from rfl, setAddHashedIn_succ]
  refine wpAny_holding (wpAny_bind (wpAny_setState_of ho hd R.fits (wp_if_neg (by simp [byScan, Value.scannable]) ?_)))
  try refine wpAny_bind (wpAny_pure ?_)
  refine wpAny_bind (srch_at R hx hu (fun hm => wpAny_pure (hQ false s.heap L es ep t (Heap.SameBut.refl a s.heap) R (fun _ => rfl) fun z => absurd hm z)) fun n hm fr bs => ?_)
  refine wpAny_bind (wpAny_setState_of ho hd R.fits ?_); dsimp only
  obtain ⟨q1, q2, q3, q4, q5, q6, q7, q8, q9⟩ := R.tab.put fr bs
  have hs : way t.mask (kh P w k) n = (pr t (kh P w k) n).j := rfl
  rw [hs] at q1 q2 q3 q4 q5 q6 q7 q8 q9
  generalize (pr t (kh P w k) n).j = slot at q1 q2 q3 q4 q5 q6 q7 q8 q9 ⊢
  generalize ept : t.put slot = pt at q1 q3 q4 q5 q6 q7 q8 q9 ⊢
  obtain ⟨t1, p'⟩ := pt
  dsimp only at q1 q3 q4 q5 q6 q7 q8 q9 ⊢
  subst q1
  generalize SetTable.below t.place slot = p at q2 q3 ⊢
  have step : ∀ c : Bool, wpAny (model P w) A (do
      let t := if c = true then t1 else { t1 with plain := false }
      storeSet a (SetTable.insertAt es p (kh P w k, Value.ref x)) t
      if (!false && t.tooFull) = true then setRelay a (SetTable.grown (es.size + 1))
      return true) Q E s := fun c => by
    have T1 := tab_plain q3 c
    have m1 : (if c = true then t1 else { t1 with plain := false }).mask = t1.mask := by cases c <;> rfl
    have l1 : (if c = true then t1 else { t1 with plain := false }).led = t1.led := by cases c <;> rfl
    have f1 : (if c = true then t1 else { t1 with plain := false }).tooFull = t1.tooFull := by cases c <;> rfl
    generalize (if c = true then t1 else { t1 with plain := false }) = t2 at T1 m1 l1 f1 ⊢
    dsimp only
    have pm := put_perm L p (x, k)
    have hen : (SetTable.insertAt es p (kh P w k, Value.ref x)).toList = ents P w (L.take p ++ (x, k) :: L.drop p) := by
      rw [SetTable.toList_insertAt, R.row]
      show _ = List.map _ _
      rw [List.map_append, List.map_cons, List.map_take, List.map_drop]
    have hhs : hshs P w (L.take p ++ (x, k) :: L.drop p) = (hshs P w L).take p ++ kh P w k :: (hshs P w L).drop p := by
      show List.map _ _ = _
      rw [List.map_append, List.map_cons, List.map_take, List.map_drop]
    rw [← hhs] at T1
    have one1 : ((L.take p ++ (x, k) :: L.drop p).map (·.2)).Nodup := (pm.map (·.2)).nodup_iff.mpr (List.nodup_cons.mpr ⟨hm, R.one⟩)
    generalize SetTable.insertAt es p (kh P w k, Value.ref x) = es1 at hen ⊢
    generalize L.take p ++ (x, k) :: L.drop p = L1 at pm hen T1 one1
    have len1 : L1.length = L.length + 1 := pm.length_eq
    have size1 : es1.size = L.length + 1 := by rw [ents_size hen, len1]
    refine wpAny_bind (wpAny_storeSet_of ho hd ?_ (by rw [size1, sizeLine_eq]; omega))
    have sb : Heap.SameBut a s.heap (s.heap.update a (Obj.putSet es1 t2)) := Heap.SameBut.update ..
    have ho1 := store_at (es' := es1) (t' := t2) ho hd
    generalize s.heap.update a (Obj.putSet es1 t2) = h1 at sb ho1 ⊢
    have key1 : ∀ m ∈ L1, IsP P w h1 m.2 m.1 := fun m hm' => by
      rcases List.mem_cons.mp (pm.mem_iff.mp hm') with e | hm'
      · rw [e]; exact isP_same hx ho hd sb
      · exact isP_same (R.key m hm') ho hd sb
    have led1 : w.params.followText "set-order" = true ∨ t2.led = true := by rw [l1, q5]; exact R.led
    by_cases full : t2.tooFull = true
    · first
        | refine wpAny_bind (wp_if_pos (by simp [full]) ?_)
        | refine wp_if_pos (by simp [full]) (wpAny_bind ?_)
      have ge : (L.length + 1) * 5 ≥ t.mask * 3 := by
        rw [f1] at full
        unfold SetTable.tooFull at full
        rw [decide_eq_true_eq, q9, List.length_map, q4] at full
        exact full
      have pl2 : t2.place.size = es1.size := by rw [T1.sz, List.length_map, len1, size1]
      have two : (t.mask = 7 ∧ L.length = 4) ∨ (t.mask = 31 ∧ L.length = 18) := by
        rcases R.tab.mok with e | e | e
        · left; rw [e] at room ge; exact ⟨e, by omega⟩
        · right; rw [e] at room ge; exact ⟨e, by omega⟩
        · exfalso; rw [e] at ge; omega
      have go : ∀ M, SetTable.sizeAbove (SetTable.grown (L.length + 1)) - 1 = M → MaskOk M → SetTable.sizeAbove (SetTable.grown (L.length + 1)) ≤ 128 → (L.length + 1) * 5 < M * 3 →
          wpAny (model P w) A (setRelay a (SetTable.grown (es.size + 1))) (fun _ s' => wpAny (model P w) A (pure true) Q E s') E { s with heap := h1 } := fun M g1 g2 g3 g4 => by
        rw [size]
        refine relay (s := { s with heap := h1 }) ho1 ⟨hex.1, hex.2.1, hex.2.2⟩ rfl hen pl2 T1.dm (by rw [size1, m1, q4]; rcases two with ⟨e, e2⟩ | ⟨e, e2⟩ <;> omega) one1 key1 led1 (by rw [len1]; exact few) g1 g2 g3 (by rw [len1]; exact g4) ?_
        exact fun h2 L2 es2 ep2 t2 sb2 R2 pm2 => wpAny_pure (hQ true h2 L2 es2 ep2 t2 (sb.trans sb2) R2 (fun z => absurd z hm) fun _ => pm2.trans pm)
      rcases two with ⟨_, e2⟩ | ⟨_, e2⟩
      · exact go 31 (by rw [e2, size_20]) (.inr (.inl rfl)) (by rw [e2, size_20]; decide) (by omega)
      · exact go 127 (by rw [e2, size_76]) (.inr (.inr rfl)) (by rw [e2, size_76]; decide) (by omega)
    · have room1 : L1.length * 5 < t2.mask * 3 := by
        rw [f1] at full
        unfold SetTable.tooFull at full
        rw [decide_eq_true_eq, q9, List.length_map, q4] at full
        rw [len1, m1, q4]
        omega
      first
        | refine wp_if_neg (by simp [full]) ?_
        | refine wpAny_bind (wp_if_neg (by simp [full]) (wpAny_pure ?_))
      exact wpAny_pure (hQ true h1 L1 es1 (ep + 1) t2 sb ⟨⟨_, ho1, ⟨hex.1, hex.2.1, hex.2.2⟩, rfl⟩, hen, T1, one1, key1, led1, room1, by rw [len1]; exact few⟩ (fun z => absurd z hm) fun _ => pm)
  by_cases tp : t1.plain = true
  · first
      | exact wpAny_bind (wp_if_pos tp (hashed_tup hx step))
      | exact wp_if_pos tp (wpAny_bind (hashed_tup hx step))
  · first
      | exact wpAny_bind (wp_if_neg tp (wpAny_pure (step true)))
      | exact wp_if_neg tp (step true)
      | exact wp_if_neg tp (wpAny_bind (wpAny_pure (step true)))
end
/-! ### as tracked things -/
/-- the set at a by its members, in whatever order its table has them -/
def PS0 (P : Program) (w : World) (h : Heap) (a : Addr) (L : List (Addr × TKey)) : Prop :=
  ∃ (es : Array (Int × Value)) (ep : Nat) (t : SetTable) (L' : List (Addr × TKey)), L'.Perm L ∧ (∃ o, h.get? a = some o ∧ o.ExactSet ∧ o.data = .set es ep t) ∧ es.toList = ents P w L' ∧ TabOk t (hshs P w L') ∧ (L'.map (·.2)).Nodup ∧
    (w.params.followText "set-order" = true ∨ t.led = true) ∧ L'.length * 5 < t.mask * 3 ∧ L'.length < 64
def SetP (P : Program) (w : World) (a : Addr) (L : List (Addr × TKey)) : HO := .ext fun h => PS0 P w h a L
section
variable {P : Program} {w : World} {h h' : Heap} {a : Addr} {L L' : List (Addr × TKey)} {es : Array (Int × Value)} {ep : Nat} {t : SetTable}
theorem PSet.ps0 (R : PSet P w h a L' es ep t) (p : L'.Perm L) : PS0 P w h a L := ⟨es, ep, t, L', p, R.obj, R.row, R.tab, R.one, R.led, R.room, R.few⟩
theorem ps0_full (R : PS0 P w h a L) (key : ∀ m ∈ L, IsP P w h m.2 m.1) : ∃ L' es ep t, L'.Perm L ∧ PSet P w h a L' es ep t := by
  obtain ⟨es, ep, t, L', p, h1, h2, h3, h4, h5, h6, h7⟩ := R
  exact ⟨L', es, ep, t, p, h1, h2, h3, h4, fun m hm => key m (p.mem_iff.mp hm), h5, h6, h7⟩
theorem setP_new {H : Hp} (R : PS0 P w h a L) : ObjOk P w H h a (SetP P w a L) := by
  refine ⟨R, ?_, fun h1 h2 p k => ?_⟩
  · obtain ⟨_, _, _, _, _, ⟨o, ho, _⟩, _⟩ := R
    exact ⟨o, ho⟩
  · obtain ⟨es, ep, t, L', p, ⟨o, ho, r⟩, q⟩ := p
    exact ⟨es, ep, t, L', p, ⟨o, k o ho, r⟩, q⟩
theorem starts_P : Starts P w fun D => SetP P w D [] := fun H h D ho => setP_new ⟨#[], 0, .fresh 0 0 (!w.params.followText "set-order"), [], .nil, ⟨_, ho, ⟨rfl, rfl, rfl⟩, rfl⟩, rfl, ⟨List.Pairwise.nil, rfl, rfl, .inl rfl, fun x hx => (by cases hx), fun i h j hi => (by simp at hi)⟩, List.nodup_nil, by
  show _ ∨ (!w.params.followText "set-order") = true
  cases w.params.followText "set-order"
  · exact .inr rfl
  · exact .inl rfl, by show 0 * 5 < 7 * 3; decide, by show 0 < 64; decide⟩
theorem starts_K : Starts P w fun D => SetK P w D (fun _ => false) 0 := fun H h D ho => setK_new ⟨_, #[], 0, _, ho, ⟨rfl, rfl, rfl⟩, rfl, (fun e he => by simp at he), (fun k => by simp), (by decide), (by rfl), rfl⟩
end
theorem items_vals {P : Program} {w : World} : ∀ {k : TKey} {us : List Value}, Vals (k.map kV) us → ItemsAre (mixKind P w) k us
  | [], _, .nil => .nil
  | n :: k, _, .cons r t => .cons (kV_is r) (items_vals t)
section
variable {X : Cx} {pins : List (Addr × Obj)} {σ : L2.St} {H : Hp} {s : Shared}
theorem inv_isP {b : Addr} {k : TKey} (I : Inv X pins σ H s) (h : SqT X.K H b (k.map kV)) : IsP X.prog X.w s.heap k b := by
  obtain ⟨its, r, ⟨o, ho, hc, n, hd⟩, _⟩ := I.tuple h
  exact ⟨o, its.toArray, n, ho, hc, hd, by simpa using items_vals r⟩
/-- set.add of a tuple -/
def rSAddP (K : PySem.W.Frag) (P : Program) (w : World) : V → List V → Hp → VK → Prop := fun x xs H Q => ∃ (a p : Addr) (k : TKey) (L L2 : List (Addr × TKey)), x = .ref a ∧ xs = [.ref p] ∧ H a = some (SetP P w a L) ∧ SqT K H p (k.map kV) ∧ (∀ m ∈ L, SqT K H m.1 (m.2.map kV)) ∧ L.length + 1 < 64 ∧
  (k ∈ L.map (fun m => m.2) → L2 = L) ∧ (k ∉ L.map (fun m => m.2) → L2 = (p, k) :: L) ∧ Q .non (upd H a (SetP P w a L2))
theorem mt_saddP (hu : X.A.units + 64 < cLine) : MtR X "set.add" (rSAddP X.K X.prog X.w) := by
  intro pins s σ H x xs v us Q I rx rxs h
  obtain ⟨a, p, k, L, Ln, rfl, rfl, ha, hp, hL, few, l1, l2, q⟩ := h
  cases rx
  cases rxs with
  | cons ry rt =>
    cases rt
    cases ry
    obtain ⟨L', es, ep, t, pm, R⟩ := ps0_full (I.hok a _ ha).1 fun m hm => inv_isP I (hL m hm)
    have hx := inv_isP I hp
    obtain ⟨o, ho, hex, hd⟩ := R.obj
    have ty : s.TypeIs (.ref a) "set" := ⟨o, ho, hex.1⟩
    refine wpAny_call_entry F.slot_set_add ty F.entry_set_add ?_ (F.args_set_add_2 _ _)
    unfold Builtin.«set.add» Builtin.Frozenset.oneOther
    simp only [List.isEmpty_nil, bind_assoc]
    unfold Builtin.Frozenset.addrOf setAdd
    refine wpAny_bind (wpAny_pure ?_); try dsimp only
    refine wpAny_bind (wpAny_pure ?_); try dsimp only
    refine wpAny_bind (wpAny_holding (wpAny_bind (wpAny_pyHash_tuple (by rw [Around.in1_units]; omega) hx ?_)))
    have mem : k ∈ L'.map (·.2) ↔ k ∈ L.map (·.2) := (pm.map (·.2)).mem_iff
    refine add (s := { s with toks := s.toks + (k.length + 1) }) R hx (by rw [Around.in1_units]; omega) (by rw [pm.length_eq]; exact few) fun b h' L2 es2 ep2 t2 sb R2 y n => ?_
    show wpAny (model X.prog X.w) X.A.in1 (ret Value.none) _ _ _
    have he : ∃ u, h'.get? a = some u := by obtain ⟨o2, ho2, _⟩ := R2.obj; exact ⟨o2, ho2⟩
    refine wpAny_pure ⟨_, rfl, .non, _, I.write (e := a) (t' := s.toks + (k.length + 1)) (by rw [ha]; trivial) (.inl rfl) (fun b u hb hu => (sb.2 b hb).trans hu) he (setP_new (R2.ps0 ?_)), rfl, q⟩
    rcases Classical.em (k ∈ L.map (·.2)) with hm | hm
    · rw [l1 hm, y (mem.mpr hm)]
      exact pm
    · rw [l2 hm]
      exact (n fun z => hm (mem.mp z)).trans (pm.cons _)
/-- len of a set of keys; of a set of tuples -/
def rLenSK (P : Program) (w : World) : List V → Hp → VK → Prop := fun xs H Q => ∃ a S n, xs = [.ref a] ∧ H a = some (SetK P w a S n) ∧ Q (.int (n : Nat)) H
def rLenSP (P : Program) (w : World) : List V → Hp → VK → Prop := fun xs H Q => ∃ a L, xs = [.ref a] ∧ H a = some (SetP P w a L) ∧ Q (.int (L.length : Nat)) H
theorem call_lenSK : CallR X (.builtin "len") (rLenSK X.prog X.w) := by
  intro pins s σ H xs us Q I r h
  obtain ⟨a, S, n, rfl, ha, q⟩ := h
  obtain ⟨u, rfl, ru⟩ := vals1 r
  cases ru
  obtain ⟨o, es, ep, t, ho, hex, hd, _, _, hb, hf, hn⟩ := setK_get I ha
  have h63 : es.size < 2 ^ 63 := Nat.lt_of_lt_of_le hb (by decide)
  subst hn
  exact call_len_set ho hex hd hf (by omega) ⟨.int (es.size : Nat), H, (I.tok _).tok _, ⟨_, rfl⟩, q⟩
theorem call_lenSP : CallR X (.builtin "len") (rLenSP X.prog X.w) := by
  intro pins s σ H xs us Q I r h
  obtain ⟨a, L, rfl, ha, q⟩ := h
  obtain ⟨u, rfl, ru⟩ := vals1 r
  cases ru
  obtain ⟨es, ep, t, L', pm, ⟨o, ho, hex, hd⟩, row, tab, _, _, room, few⟩ := (I.hok a _ ha).1
  have size := ents_size row
  have pl : t.place.size = L'.length := by rw [tab.sz, List.length_map]
  have e : es.size = L.length := by rw [size, pm.length_eq]
  exact call_len_set ho hex hd (fits_of (by omega) tab.dm (by omega)) (by omega) ⟨.int (L.length : Nat), H, (I.tok _).tok _, ⟨_, by rw [e]⟩, q⟩
end
end Zk
set_option Elab.async false
set_option linter.all false
set_option maxRecDepth 100000
set_option maxHeartbeats 2000000
/-! What checking webs needs: pairs and lists turned about, all over elements that leave tables, the sets' turns. -/
namespace Zk
open PySem PySem.Spec PyProof.Rows L2 GxR
/-! ### (x, y)[::-1], xs[::-1] -/
section
variable {prog : Program} {w : World} {A : Around} {E : Value → Shared → Prop} {s : Shared}
theorem getItem_rev2 {t sl : Addr} {u v vl vu vs : Value} {Q : Value → Shared → Prop} (ht : IsTup s.heap t #[u, v]) (hs : s.heap.IsSliceOf sl vl vu vs) (pl : IsPart vl none) (pu : IsPart vu none) (ps : IsPart vs (some (-1)))
    (h : Q (.ref s.heap.objs.size) { s with heap := s.heap.push { cls := .type "tuple", data := .seq #[v, u] } }) : wpAny (model prog w) A (getItem (.ref t) (.ref sl)) Q E s := by
  obtain ⟨os, hos, hcs, hds⟩ := id hs
  have hTs : s.TypeIs (.ref sl) "slice" := ⟨os, hos, hcs⟩
  unfold getItem
  try with_reducible refine wpAny_holding ?_
  first | refine wpAny_bind (wpAny_pure ?_) | skip
  refine wpAny_bind (wpAny_sequenceKey ht.typeIs (by decide) (wpAny_bind (wpAny_callSpecial?_slot (name := Str.ofString "__getitem__") ht.typeIs PyProof.Rows.slot_tuple_getitem (wpAny_call_entry PyProof.Rows.slot_tuple_getitem ht.typeIs entry_tuple_getitem ?_ (args_tuple_getitem _ _)))))
  show wpAny (model prog w) _ (Builtin.Tuple.tupleItemsOf (.ref t) >>= _) _ E s
  refine wpAny_bind (tupleItemsOf_ ht (wpAny_bind (wpAny_typeOf hTs ?_)))
  rw [if_pos (by decide)]
  refine wpAny_bind ?_
  unfold Builtin.Slice.sliceApplied Builtin.Slice.sliceFields
  refine wpAny_bind (wpAny_bind (wpAny_field hos hds (x := vl) rfl (wpAny_bind (wpAny_field hos hds (x := vu) rfl (wpAny_bind (wpAny_field hos hds (x := vs) rfl (wpAny_pure ?_)))))))
  refine wpAny_bind (HT.slicePart_ ps ?_)
  show wpAny (model prog w) _ (if ((-1 : Int) == 0) = true then _ else _) _ E s
  rw [if_neg (by decide)]
  refine wpAny_bind (HT.slicePart_ pl (wpAny_bind (HT.slicePart_ pu (wpAny_bind (wpAny_pure (wpAny_pure ?_))))))
  have two : ¬ (((1 : Int) == 0 && (-1 : Int) == 1 && (2 : Nat) == 2) = true) := by decide
  have sz : sizeOk (.seq #[v, u]) := by
    show (2 : Nat) ≤ sizeLine
    rw [sizeLine_eq]
    omega
  show wpAny (model prog w) _ (if ((1 : Int) == 0 && (-1 : Int) == 1 && (2 : Nat) == 2) = true then _ else _) _ E s
  rw [if_neg two]
  have e : ((List.range 2).filterMap (fun (k : Nat) => (#[u, v] : Array Value)[((1 : Int) + (k : Int) * (-1)).toNat]?)).toArray = #[v, u] := by
    have r2 : List.range 2 = [0, 1] := by decide
    have a0 : ((1 : Int) + ((0 : Nat) : Int) * (-1)).toNat = 1 := by decide
    have a1 : ((1 : Int) + ((1 : Nat) : Int) * (-1)).toNat = 0 := by decide
    rw [r2, List.filterMap_cons, a0, List.filterMap_cons, a1]
    rfl
  have np : Builtin.Slice.slicePlaces 1 (-1) (-1) = 2 := by decide
  show wpAny (model prog w) _ (Builtin.Tuple.tupleExact ((List.range (Builtin.Slice.slicePlaces 1 (-1) (-1))).filterMap (fun (k : Nat) => (#[u, v] : Array Value)[((1 : Int) + (k : Int) * (-1)).toNat]?)).toArray >>= _) _ E s
  rw [np, e]
  first
    | exact wpAny_bind (m := Builtin.Tuple.tupleExact _) (wpAny_newObj_type (wpAny_pure ⟨_, rfl, wpAny_pure h⟩) sz)
    | exact wpAny_bind (m := Builtin.Tuple.tupleExact _) (wpAny_newObj_type (wpAny_bind (wpAny_pure (wpAny_pure ⟨_, rfl, wpAny_pure h⟩))) sz)
    | exact wpAny_bind (wpAny_bind (m := Builtin.Tuple.tupleExact _) (wpAny_newObj_type (wpAny_pure (wpAny_pure ⟨_, rfl, wpAny_pure h⟩)) sz))
    | exact wpAny_bind (wpAny_bind (m := Builtin.Tuple.tupleExact _) (wpAny_newObj_type (wpAny_pure ⟨_, rfl, wpAny_pure h⟩) sz))
end
def tRev2 (K : PySem.W.Frag) (te : TE) : TE := fun σ H Q => te σ H fun v H1 => ∃ a x y, v = .ref a ∧ SqT K H1 a [x, y] ∧ ∀ p, H1 p = none → Q (.ref p) (upd H1 p (.tup [y, x]))
section
variable {X : Cx}
theorem pe_revLE (K : PySem.W.Frag) {e : Expr} {te : TE} {k : Nat} {p1 p2 p3 pos : Pos} (he : PE X e te) (eK : X.K = K := by rfl) : PE X (.Subscript e (.Slice none none (some (.UnaryOp .USub (.Constant (.int 1) k p1) p2)) p3) pos) (tRevL K te) := by rw [← eK]; exact pe_revL he
theorem pe_rev2E (K : PySem.W.Frag) {e : Expr} {te : TE} {k : Nat} {p1 p2 p3 pos : Pos} (he : PE X e te) (eK : X.K = K := by rfl) : PE X (.Subscript e (.Slice none none (some (.UnaryOp .USub (.Constant (.int 1) k p1) p2)) p3) pos) (tRev2 K te) := by
  rw [← eK]
  refine ⟨fun pins s σ H Q I h => Subscript_ (thn (he.run pins s σ H _ I h) fun v s1 ⟨v0, H1, I1, r1, a, x, y, e0, hx, q⟩ => ?_)⟩
  subst e0
  cases r1
  have back : PO X (some (.UnaryOp .USub (.Constant (.int 1) k p1) p2)) (tPart (tUn (rU fun i => .int (-i)) (tC (.int 1)))) := po_some (pe_un un_neg pe_int)
  refine wpAny_Slice (thn (po_none.run pins s1 σ H1 (fun o H2 => H2 = H1 ∧ o = none) I1 ⟨rfl, rfl⟩) fun vl s2 ⟨_, H2, I2, pl, e2, el⟩ => ?_)
  subst el e2
  refine thn (po_none.run pins s2 σ H2 (fun o H3 => H3 = H2 ∧ o = none) I2 ⟨rfl, rfl⟩) fun vu s3 ⟨_, H3, I3, pu, e3, eu⟩ => ?_
  subst eu e3
  refine thn (back.run pins s3 σ H3 (fun o H4 => H4 = H3 ∧ o = some (-1)) I3 ⟨1, rfl, -1, rfl, rfl, rfl⟩) fun vs s4 ⟨_, H4, I4, ps, e4, eo⟩ => ?_
  subst eo e4
  generalize es5 : ({ s4 with heap := s4.heap.push { cls := .type "slice", data := .fields #[vl, vu, vs] } } : Shared) = s5
  have I5 : Inv X pins σ H4 s5 := by rw [← es5]; exact I4.kept (t' := s4.toks) fun b ob q => Heap.get?_push_of_some _ q
  have hsl : s5.heap.IsSliceOf s4.heap.objs.size vl vu vs := by rw [← es5]; exact Heap.IsSliceOf.new _ vl vu vs
  obtain ⟨its, r, ht, hz⟩ := I5.tuple hx
  obtain ⟨u1, u2, rfl, ru1, ru2⟩ := vals2 r
  show wpAny (model X.prog X.w) X.A (subscriptTail e (.Slice none none (some (.UnaryOp .USub (.Constant (.int 1) k p1) p2)) p3) (.ref a) (.ref s4.heap.objs.size)) (EP X pins σ Q) X.xe s5
  refine tail_any (ops := [.ref a, .ref s4.heap.objs.size]) ht.typeIs (PyProof.Rows.slot_tuple_getitem.lookup) ?_ (by with_unfolding_all rfl)
  refine getItem_rev2 ht hsl pl pu ps ⟨.ref _, _, I5.laid (t' := s5.toks) (o := .tup [y, x]) (fun b ob q => Heap.get?_push_of_some _ q) (Nat.le_refl _) ?_, rfl, q _ (I5.hok.fresh (Nat.le_refl _))⟩
  exact ⟨Nat.le_of_lt (small1000 (by simp)), [u2, u1], .cons ru2 (.cons ru1 .nil), _, Heap.get?_push_size _ rfl, rfl, 0, rfl⟩
end
section
variable {σ : L2.St} {H : Hp} {Q : VK} {te : TE} {K : PySem.W.Frag}
theorem z_revL (q : te σ H fun x H1 => ∃ a xs, x = .ref a ∧ SqL K H1 a xs ∧ ∀ p, H1 p = none → Q (.ref p) (upd H1 p (.lst xs.reverse))) : tRevL K te σ H Q := q
theorem z_rev2 (q : te σ H fun v H1 => ∃ a x y, v = .ref a ∧ SqT K H1 a [x, y] ∧ ∀ p, H1 p = none → Q (.ref p) (upd H1 p (.tup [y, x]))) : tRev2 K te σ H Q := q
theorem z_minS {x y : Str} (q : Q (.str (if sLt y x = true then y else x)) H) : rMinS [.str x, .str y] H Q := ⟨x, y, rfl, q⟩
theorem z_maxS {x y : Str} (q : Q (.str (if sLt x y = true then y else x)) H) : rMaxS [.str x, .str y] H Q := ⟨x, y, rfl, q⟩
theorem z_isNn (q : Q (.bl true) H) : rIsN .non .non H Q := ⟨rfl, q⟩
theorem z_notNn (q : Q (.bl false) H) : rNotN .non .non H Q := ⟨rfl, q⟩
end
/-! ### tables together -/
def TGs (H : Hp) (Ps : List Addr) : Prop := ∀ P ∈ Ps, TabG H P
theorem TGs.same {H H' : Hp} {Ps : List Addr} (h : TGs H Ps) (e : Same H H') : TGs H' Ps := fun P hP => tg_same (h P hP) e
theorem TGs.tab {H H' : Hp} {Ps : List Addr} {P : Addr} (h : TGs H Ps) (e : Tabbed P H H') : TGs H' Ps := fun P hP => tg_tab (h P hP) e
theorem TGs.dr {H H' : Hp} {Ps : List Addr} {s : Addr} (h : TGs H Ps) (e : Dr s H H') : TGs H' Ps := fun P hP => tg_dr (h P hP) e
/-- what a check leaves: all but tables, and the tables in their form -/
structure Kc (Ps : List Addr) (H H' : Hp) : Prop where
  kp : Kp H H'
  tg : TGs H' Ps
theorem Kc.refl {Ps : List Addr} {H : Hp} (h : TGs H Ps) : Kc Ps H H := ⟨Kp.refl H, h⟩
theorem Kc.trans {Ps : List Addr} {H H1 H2 : Hp} (a : Kc Ps H H1) (b : Kc Ps H1 H2) : Kc Ps H H2 := ⟨a.kp.trans b.kp, b.tg⟩
theorem Kc.of_same {Ps : List Addr} {H H1 : Hp} (h : TGs H Ps) (e : Same H H1) : Kc Ps H H1 := ⟨Kp.of_same e, h.same e⟩
theorem Kc.of_tab {Ps : List Addr} {P : Addr} {H H1 : Hp} (h : TGs H Ps) (hP : P ∈ Ps) (e : Tabbed P H H1) : Kc Ps H H1 := ⟨Kp.of_tab e (h P hP), h.tab e⟩
/-- all over elements that leave so much -/
theorem all_kc {Ps : List Addr} {J : It} {g : TG} {te : TE} {vs : List Nat} {σw : L2.St} {H2 : Hp} {Qt Qf : Hp → Prop} (n : Nat) (pr : Nat → Bool) (h2 : TGs H2 Ps) (hgo : ∀ i H, i < n → Kc Ps H2 H → J.go i H) (hstop : ∀ H, Kc Ps H2 H → J.stop n H)
    (hs : ∀ i x H H', i < n → Kc Ps H2 H → J.yld i H x H' → ∀ (Q' : VK) (B : Hp → Prop), (∀ H3, Kc Ps H H3 → Q' (.bl (pr i)) H3) → g x σw H' fun σ2 H3 => wipe σ2 vs = σw ∧ tYes σ2 H3 fun b H4 => if b = true then te σ2 H4 Q' else B H4)
    (hT : (∀ i, i < n → pr i = true) → ∀ H, Kc Ps H2 H → Qt H) (hF : ∀ i, i < n → pr i = false → ∀ H, Kc Ps H2 H → Qf H) : ∃ W : Nat → Nat → Hp → Prop, (∃ m, W 0 m H2) ∧ AllTurns J g tYes te vs σw W Qt Qf := by
  refine ⟨fun i m H => m = n - i ∧ i ≤ n ∧ Kc Ps H2 H ∧ ∀ j, j < i → pr j = true, ⟨n, rfl, Nat.zero_le _, Kc.refl h2, fun j h => absurd h (Nat.not_lt_zero _)⟩, ?_⟩
  rintro i m H ⟨rfl, hi, hk, hp⟩
  by_cases h : i < n
  · refine .inr ⟨hgo i H h hk, fun H' => Kc Ps H2 H' ∧ pr i = true, fun H' hN => ⟨n - (i + 1), by omega, rfl, h, hN.1, fun j hj => ?_⟩, fun x H' hy => hs i x H H' h hk hy _ _ fun H3 k3 => ⟨pr i, rfl, ?_⟩⟩
    · rcases (show j < i ∨ j = i by omega) with z | z
      · exact hp j z
      · rw [z]; exact hN.2
    · cases hb : pr i with
      | true => exact ⟨hk.trans k3, rfl⟩
      | false => exact hF i h hb H3 (hk.trans k3)
  · have e : i = n := by omega
    subst e
    exact .inl ⟨hstop H hk, hT hp H hk⟩
/-! ### the turns of a set's comprehension over a list -/
theorem sc_list {SO : Addr → HO} {r : V → List V → Hp → VK → Prop} {K : PySem.W.Frag} {a : Addr} {xs : List V} {g : TG} {tt : TT} {te : TE} {vs : List Nat} {σ : L2.St} {H1 : Hp} {D : Addr} {Qd : Hp → Prop} (Pv : Nat → Hp → Prop) (h0 : Pv 0 (upd H1 D (SO D))) (hl : ∀ i H, i ≤ xs.length → Pv i H → SqL K H a xs)
    (hs : ∀ i x H, xs[i]? = some x → Pv i H → g x (wipe σ vs) H fun σ2 H2 => wipe σ2 vs = wipe σ vs ∧ tt σ2 H2 fun b H3 => if b = true then te σ2 H3 fun y H4 => r (.ref D) [y] H4 (fun _ H5 => Pv (i + 1) H5) else Pv (i + 1) H3) (hd : ∀ H, Pv xs.length H → Qd H) :
    ∃ W : Nat → Nat → Hp → Prop, (∃ m, W 0 m (upd H1 D (SO D))) ∧ ∀ i m H, W i m H → ((Itl K a).stop i H ∧ Qd H) ∨ ((Itl K a).go i H ∧ ∃ Nx : Hp → Prop, (∀ H', Nx H' → ∃ m', m' < m ∧ W (i + 1) m' H') ∧ ∀ x H', (Itl K a).yld i H x H' → g x (wipe σ vs) H' fun σ2 H2 => wipe σ2 vs = wipe σ vs ∧ tt σ2 H2 fun b H3 =>
      if b = true then te σ2 H3 fun y H4 => r (.ref D) [y] H4 (fun _ H5 => Nx H5) else Nx H3) := by
  refine ⟨fun i m H => i ≤ xs.length ∧ m = xs.length - i ∧ Pv i H, ⟨xs.length, Nat.zero_le _, by simp, h0⟩, ?_⟩
  rintro i m H ⟨hi, rfl, p⟩
  have q := hl i H hi p
  by_cases lt : i < xs.length
  · refine .inr ⟨⟨xs, xs[i], q, by simp [lt]⟩, Pv (i + 1), fun H' p' => ⟨xs.length - (i + 1), by omega, lt, rfl, p'⟩, fun x H' y => ?_⟩
    obtain ⟨rfl, y⟩ := y
    exact hs i x _ (y xs q) p
  · have e : i = xs.length := by omega
    subst e
    exact .inl ⟨⟨xs, q, Nat.le_refl _⟩, hd H p⟩
section
variable {σ : L2.St} {H : Hp} {Q : VK}
theorem z_scG {SO : Addr → HO} {r : V → List V → Hp → VK → Prop} {wi : TI} {g : TG} {tt : TT} {te : TE} {vs : List Nat} (q : wi σ H fun J H1 => ∀ D, H1 D = none → ∃ W : Nat → Nat → Hp → Prop, (∃ m, W 0 m (upd H1 D (SO D))) ∧ ∀ i m H, W i m H →
  (J.stop i H ∧ Q (.ref D) H) ∨ (J.go i H ∧ ∃ Nx : Hp → Prop, (∀ H', Nx H' → ∃ m', m' < m ∧ W (i + 1) m' H') ∧ ∀ x H', J.yld i H x H' → g x (wipe σ vs) H' fun σ2 H2 => wipe σ2 vs = wipe σ vs ∧ tt σ2 H2 fun b H3 =>
    if b = true then te σ2 H3 fun y H4 => r (.ref D) [y] H4 (fun _ H5 => Nx H5) else Nx H3)) : tScG SO r wi g tt te vs σ H Q := q
theorem z_addK {P : Program} {w : World} {D : Addr} {k : Key} {S : Key → Bool} {n : Nat} (hD : H D = some (SetK P w D S n)) (hn : n < 100) (q : ∀ H' S' n', (∀ b o, b ≠ D → H b = some o → H' b = some o) → H' D = some (SetK P w D S' n') → (∀ j, S' j = (S j || decide (j = k))) → n' = (if S k = true then n else n + 1) → Q .non H') : rSAddK P w (.ref D) [kV k] H Q :=
  ⟨D, k, S, n, rfl, rfl, hD, Nat.lt_of_le_of_lt (show n + 1 ≤ 100 by omega) (by decide), q _ _ _ (fun b o nb hb => by rw [upd_ne nb]; exact hb) upd_same (fun _ => rfl) rfl⟩
theorem z_addP {K : PySem.W.Frag} {P : Program} {w : World} {D p : Addr} {k : TKey} {L : List (Addr × TKey)} (hD : H D = some (SetP P w D L)) (hp : SqT K H p (k.map kV)) (hL : ∀ m ∈ L, SqT K H m.1 (m.2.map kV)) (hn : L.length < 60)
    (q : ∀ H' L2, (∀ b o, b ≠ D → H b = some o → H' b = some o) → H' D = some (SetP P w D L2) → (k ∈ L.map (fun m => m.2) → L2 = L) → (k ∉ L.map (fun m => m.2) → L2 = (p, k) :: L) → Q .non H') : rSAddP K P w (.ref D) [.ref p] H Q := by
  rcases Classical.em (k ∈ L.map (fun m => m.2)) with h | h
  · exact ⟨D, p, k, L, L, rfl, rfl, hD, hp, hL, by omega, fun _ => rfl, fun z => absurd h z, q _ L (fun b o nb hb => by rw [upd_ne nb]; exact hb) upd_same (fun _ => rfl) fun z => absurd h z⟩
  · exact ⟨D, p, k, L, (p, k) :: L, rfl, rfl, hD, hp, hL, by omega, fun z => absurd z h, fun _ => rfl, q _ _ (fun b o nb hb => by rw [upd_ne nb]; exact hb) upd_same (fun z => absurd z h) fun _ => rfl⟩
end
end Zk
set_option Elab.async false
set_option linter.all false
set_option maxRecDepth 100000
set_option maxHeartbeats 3200000
/-! Sets of texts that are walked: set(list of texts), sorted of such a set. -/
namespace Zk
open PySem PySem.Spec PyProof.Rows L2
/-- an entry of a text -/
def TxE (w : World) (e : Int × Value) : Prop := ∃ k t, e.2 = Value.str k t ∧ e.1 = hashStr w k
def txK (e : Int × Value) : Str := match e.2 with | .str k _ => k | _ => Str.empty
/-- the set at a of the texts zs, each once; its table can be walked -/
def TxS (w : World) (h : Heap) (a : Addr) (zs : List Str) : Prop :=
  ∃ o es ep t, h.get? a = some o ∧ o.ExactSet ∧ o.data = .set es ep t ∧ (∀ e ∈ es.toList, TxE w e) ∧ (es.toList.map txK).Perm zs ∧ zs.Nodup ∧ es.size < scanBound ∧ t.fits es.size = true ∧ Ris t.place.toList ∧ (w.params.followText "set-order" = true ∨ t.led = true)
section
variable {P : Program} {w : World} {A : Around} {E : Value → Shared → Prop} {s : Shared} {a : Addr} {zs : List Str}
theorem TxS.at {h h' : Heap} (R : TxS w h a zs) (k : ∀ o, h.get? a = some o → h'.get? a = some o) : TxS w h' a zs := by
  obtain ⟨o, es, ep, t, ho, r⟩ := R
  exact ⟨o, es, ep, t, k o ho, r⟩
theorem tx_elems {l : List (Int × Value)} (g : ∀ e ∈ l, TxE w e) : ElemsOf (PySem.strKind P w) l := fun e he => by
  obtain ⟨k, t, h1, h2⟩ := g e he
  exact ⟨⟨k, by rw [h1]; exact strKind_is _ _ _ _, h2⟩, by rw [h1] <;> rfl⟩
theorem tx_is {e : Int × Value} (g : TxE w e) (k : Str) : (PySem.strKind P w).is k e.2 = true ↔ txK e = k := by
  obtain ⟨k0, t, h1, _⟩ := g
  unfold txK
  rw [h1]
  constructor
  · intro q
    exact (PySem.strKind P w).inj _ _ _ (strKind_is _ _ _ _) q
  · rintro rfl
    exact strKind_is _ _ _ _
theorem tx_put {h : Heap} {o : Obj} {es es' : Array (Int × Value)} {ep : Nat} {t t' : SetTable} (ho : h.get? a = some o) (hd : o.data = .set es ep t) : (h.update a (Obj.putSet es' t')).get? a = some { o with data := .set es' (ep + 1) t' } := store_at ho hd
/-- behind a new entry: the table laid larger where it is full -/
theorem tx_tail {g : Bool → Sem Unit} (hg : ∀ (b : Bool) (s₁ : Shared) (Q' : Unit → Shared → Prop), Q' () s₁ → wpAny (model P w) A (g b) Q' E s₁) {o : Obj} {es es1 : Array (Int × Value)} {ep : Nat} {t t2 : SetTable} (ho : s.heap.get? a = some o) (hex : o.ExactSet) (hd : o.data = .set es ep t)
    (g1 : ∀ e ∈ es1.toList, TxE w e) (p1 : (es1.toList.map txK).Perm zs) (nd : zs.Nodup) (b1 : es1.size < scanBound) (f2 : t2.fits es1.size = true) (r2 : Ris t2.place.toList) (l2 : w.params.followText "set-order" = true ∨ t2.led = true) {dm : Bool} {R : Option Bool → Shared → Prop}
    (hR : ∀ h', Heap.SameBut a s.heap h' → TxS w h' a zs → R (some true) { s with heap := h' }) :
    wpAny (model P w) A (do
        storeSet a es1 t2
        if (!dm && t2.tooFull) = true then do
            g (relayAll t2 es1 (SetTable.grown es1.size)).2.2
            storeSet a (relayAll t2 es1 (SetTable.grown es1.size)).1 (relayAll t2 es1 (SetTable.grown es1.size)).2.1
            pure (some true)
          else pure (some true)) R E s := by
  refine wpAny_bind (wpAny_storeSet_of ho hd ?_ (fits_of_scanBound b1))
  have o1 := tx_put (es' := es1) (t' := t2) ho hd
  have sb := Heap.SameBut.update s.heap a (Obj.putSet es1 t2)
  split
  · have pm := relayAll_perm t2 es1 (SetTable.grown es1.size)
    have f3 := relayAll_fits t2 es1 (SetTable.grown es1.size)
    have r3 := relayAll_ris t2 es1 (SetTable.grown es1.size)
    have l3 := relayAll_led t2 es1 (SetTable.grown es1.size)
    generalize relayAll t2 es1 (SetTable.grown es1.size) = Z at pm f3 r3 l3 ⊢
    obtain ⟨es2, t3, gv⟩ := Z
    dsimp only at pm f3 r3 l3 ⊢
    have sz : es2.size = es1.size := by rw [← Array.length_toList, pm.length_eq, Array.length_toList]
    refine wpAny_bind (hg _ _ _ (wpAny_bind (wpAny_storeSet_of o1 rfl ?_ (fits_of_scanBound (by rw [sz]; exact b1)))))
    have o2 := tx_put (es' := es2) (t' := t3) o1 rfl
    exact wpAny_pure (hR _ (sb.trans (Heap.SameBut.update _ a _)) ⟨_, es2, _, t3, o2, hex, rfl, fun e he => g1 e (pm.mem_iff.mp he), (pm.map txK).trans p1, nd, by rw [sz]; exact b1, f3, r3, l2.imp id fun z => by rw [l3]; exact z⟩)
  · exact wpAny_pure (hR _ sb ⟨_, es1, _, t2, o1, hex, rfl, g1, p1, nd, b1, f2, r2, l2⟩)
theorem tx_add {k : Str} {u : Tok} {Q : Bool → Shared → Prop} (R : TxS w s.heap a zs) (room : zs.length + 1 < scanBound)
    (hQ : ∀ b h' zs', Heap.SameBut a s.heap h' → TxS w h' a zs' → (k ∈ zs → zs' = zs) → (k ∉ zs → zs' = k :: zs) → Q b { s with heap := h' }) : wpAny (model P w) A (setAddHashed a (.str k u) (hashStr w k)) Q E s := by
  obtain ⟨o, es, ep, t, ho, hex, hd, g, pz, nd, hb, hf, hr, hl⟩ := R
  have ik : (PySem.strKind P w).is k (.str k u) = true := strKind_is _ _ _ _
  have el : ElemsOf (PySem.strKind P w) es.toList := tx_elems g
  have len : es.size = zs.length := by rw [← pz.length_eq, List.length_map, Array.length_toList]
  have memz : ∀ i, i ∈ zs ↔ ∃ e ∈ es.toList, (PySem.strKind P w).is i e.2 = true := fun i => by
    rw [← pz.mem_iff, List.mem_map]
    exact ⟨fun ⟨e, he, q⟩ => ⟨e, he, (tx_is (g e he) i).2 q⟩, fun ⟨e, he, q⟩ => ⟨e, he, (tx_is (g e he) i).1 q⟩⟩
  unfold setAddHashed setAddHashedIn
  refine wpAny_holding (wpAny_bind (wpAny_setState_of ho hd hf ?_)); dsimp only
  rw [byScan_of (x := .str k u) rfl hb el]
  simp only [↓reduceIte]
  unfold setAddByScan
  refine wpAny_bind (wpAny_bind (wpAny_rule (wpAny_bind (wpAny_setScan_of (knd := PySem.strKind P w) (k := k) ik ho hd hf el ?_))))
  cases fi : List.findIdx? (fun e => (PySem.strKind P w).is k e.2) es.toList with
  | some j =>
    obtain ⟨hj, pj, _⟩ := List.findIdx?_eq_some_iff_getElem.mp fi
    have yes : k ∈ zs := (memz k).2 ⟨es.toList[j], List.getElem_mem hj, pj⟩
    exact wpAny_pure (wpAny_pure (hQ _ s.heap zs (Heap.SameBut.refl a s.heap) ⟨o, es, ep, t, ho, hex, hd, g, pz, nd, hb, hf, hr, hl⟩ (fun _ => rfl) fun z => absurd yes z))
  | none =>
    have no : k ∉ zs := fun z => by
      obtain ⟨e, he, q⟩ := (memz k).1 z
      have c := List.findIdx?_eq_none_iff.mp fi e he
      rw [q] at c
      cases c
    dsimp only
    have gw : ∀ (b : Bool) {s₁ : Shared} {Q' : Unit → Shared → Prop}, Q' () s₁ → wpAny (model P w) A (match b with | true => rule "set.scan.the-table-gave-way" | false => pure ()) Q' E s₁ := fun b s₁ Q' q => by cases b <;> first | exact wpAny_pure q | exact wpAny_rule q
    have pm := layNew_perm t es (hashStr w k) (.str k u)
    have f1 := layNew_fits t es (hashStr w k) (.str k u)
    have r1 := layNew_ris t es (hashStr w k) (.str k u) hr
    have l1 := layNew_led t es (hashStr w k) (.str k u)
    generalize layNew t es (hashStr w k) (.str k u) = Z at pm f1 r1 l1 ⊢
    obtain ⟨es1, t1, dm, gv⟩ := Z
    dsimp only at pm f1 r1 l1 ⊢
    rw [Array.toList_push] at pm
    have pc : es1.toList.Perm ((hashStr w k, Value.str k u) :: es.toList) := pm.trans (List.perm_append_singleton _ _)
    have g1 : ∀ e ∈ es1.toList, TxE w e := fun e he => by
      rcases List.mem_cons.mp (pc.mem_iff.mp he) with z | z
      · rw [z]; exact ⟨k, u, rfl, rfl⟩
      · exact g e z
    have p1 : (es1.toList.map txK).Perm (k :: zs) := (pc.map txK).trans (pz.cons k)
    have nd1 : (k :: zs).Nodup := List.nodup_cons.mpr ⟨no, nd⟩
    have b1 : es1.size < scanBound := by rw [← Array.length_toList, pc.length_eq, List.length_cons, Array.length_toList, len]; exact room
    have led1 : w.params.followText "set-order" = true ∨ t1.led = true := hl.imp id fun z => by rw [l1]; exact z
    have fin : ∀ h', Heap.SameBut a s.heap h' → TxS w h' a (k :: zs) → Q true { s with heap := h' } := fun h' sb r => hQ true h' _ sb r (fun z => absurd z no) fun _ => rfl
    refine wpAny_bind (gw _ ?_)
    split
    · refine wpAny_bind ?_
      rw [hashByValue_scannable 8 (x := .str k u) rfl]
      refine wpAny_pure ?_
      refine tx_tail ?_ ho hex hd g1 p1 nd1 b1 ?_ ?_ ?_ ?_
      · intro b s₁ Q' q; cases b <;> first | exact wpAny_pure q | exact wpAny_rule q
      · first | (split <;> first | exact f1 | exact SetTable.fits_plain_off f1) | exact f1
      · first | (split <;> exact r1) | exact r1
      · first | (split <;> exact led1) | exact led1
      · intro h' sb r; dsimp only; exact wpAny_pure (fin h' sb r)
    · refine wpAny_bind (wpAny_pure ?_)
      simp only [↓reduceIte]
      refine tx_tail ?_ ho hex hd g1 p1 nd1 b1 f1 r1 led1 ?_
      · intro b s₁ Q' q; cases b <;> first | exact wpAny_pure q | exact wpAny_rule q
      · intro h' sb r; dsimp only; exact wpAny_pure (fin h' sb r)
end
/-! ### set(list of texts) -/
section
variable {prog : Program} {w : World} {A : Around} {R : Result → Shared → Prop} {I : Addr} {fp wr : List Addr} {G : Array GenState → Array GenState → Prop} {n : Nat} {P : Nat → Value → Prop} {St : Nat → Shared → Prop}
theorem tx_loop (W : WalksS prog w A.in1 I fp wr G n P St) (S : Addr) (hSf : S ∉ fp) (xs : List Str) (hsz : xs.length = n) (hn : n < 1000) (hval : ∀ i v, P i v → ∃ t, v = .str (xs.getD i Str.empty) t) :
    ∀ (k i : Nat) (s : Shared) (zi : List Str), n - i = k → i ≤ n → St i s → TxS w s.heap S zi → (∀ z, z ∈ zi ↔ z ∈ xs.take i) → zi.length ≤ i →
      (∀ s' zn, Moved (S :: wr) G s s' → TxS w s'.heap S zn → (∀ z, z ∈ zn ↔ z ∈ xs) → zn.length ≤ n → R (.ok (.ret .none)) s') → codeAny (model prog w) A (.builtin "set.update.loop" ⟨[.ref S, .ref I], []⟩) R s := by
  have nSw : S ∉ wr := fun h => hSf (W.sub _ h)
  have sub : ∀ b ∈ wr, b ∈ S :: wr := fun b hb => List.mem_cons_of_mem _ hb
  intro k
  induction k with
  | zero =>
    intro i s zi hk hi st hz mz lz hR
    have e : i = n := by omega
    subst e
    refine codeAny_builtin PyProof.Rows.F.entry_set_update_loop ?_
    rw [Around.under_plainId PyProof.Rows.F.plain_set_update_loop _]
    show wpAny (model prog w) A.in1 (pyNext (.ref I) >>= _) _ _ s
    refine wpAny_bind (W.done s _ _ st fun s' hm => wpAny_pure (hR s' zi (hm.mono sub) (hz.at fun o => hm.heap S o nSw) (fun z => ?_) lz))
    rw [mz, List.take_of_length_le (by omega)]
  | succ k ih =>
    intro i s zi hk hi st hz mz lz hR
    have lt : i < n := by omega
    refine codeAny_builtin PyProof.Rows.F.entry_set_update_loop ?_
    rw [Around.under_plainId PyProof.Rows.F.plain_set_update_loop _]
    show wpAny (model prog w) A.in1 (pyNext (.ref I) >>= _) _ _ s
    refine wpAny_bind (W.item i s _ _ lt st fun v s' hP st' hm => ?_)
    obtain ⟨t, rfl⟩ := hval i v hP
    obtain ⟨x, hx⟩ : ∃ x, xs[i]? = some x := ⟨_, List.getElem?_eq_getElem (by omega)⟩
    have ex : xs.getD i Str.empty = x := by rw [List.getD_eq_getElem?_getD, hx] <;> rfl
    rw [ex]
    show wpAny (model prog w) A.in1 (holding [Value.str x t] (setAdd S (.str x t)) >>= _) _ _ s'
    unfold setAdd
    refine wpAny_bind (wpAny_holding (wpAny_holding (wpAny_bind ((PySem.strKind prog w).pyHash (k := x) (strKind_is _ _ _ _) ?_))))
    refine tx_add (s := { s' with toks := s'.toks + 1 }) (hz.at fun o => hm.heap S o nSw) (Nat.lt_of_le_of_lt (show zi.length + 1 ≤ 1000 by omega) (by decide)) fun b h' zs' sb hz' y no => ?_
    have tk : ∀ z, z ∈ xs.take (i + 1) ↔ z ∈ xs.take i ∨ z = x := fun z => by rw [List.take_add_one, hx]; simp
    have mz' : ∀ z, z ∈ zs' ↔ z ∈ xs.take (i + 1) := fun z => by
      rw [tk, ← mz]
      rcases Classical.em (x ∈ zi) with h | h
      · rw [y h]
        exact ⟨.inl, fun q => q.elim id fun e => e ▸ h⟩
      · rw [no h, List.mem_cons]
        exact Or.comm
    have lz' : zs'.length ≤ i + 1 := by
      rcases Classical.em (x ∈ zi) with h | h
      · rw [y h]; omega
      · rw [no h, List.length_cons]; omega
    refine wpAny_pure ⟨plainId_quiet PyProof.Rows.F.plain_set_update_loop _, ih (i + 1) _ zs' (by omega) lt (W.frame _ s' _ _ st' (Nat.le_succ _) fun b hb o e => ?_) hz' mz' lz' fun s'' zn hm'' hz'' m'' l'' => hR s'' zn (Moved.trans W.gtrans ((hm.mono sub).then_heap (Nat.le_succ _) fun b o hb e => ?_) hm'') hz'' m'' l''⟩
    · rw [sb.2 b (fun h : b = S => hSf (by rw [← h]; exact hb))]; exact e
    · rw [sb.2 b (fun h : b = S => hb (by rw [h]; exact List.mem_cons_self))]; exact e
end
section
variable {prog : Program} {w : World} {A : Around} {E : Value → Shared → Prop} {s : Shared}
abbrev nso (led : Bool) : Obj := { cls := .type "set", dict := none, data := .set #[] 0 (.fresh 0 0 led) }
theorem tx_fresh {h : Heap} {a : Addr} (ho : h.get? a = some (newSetObj w)) : TxS w h a [] :=
  ⟨_, #[], 0, _, ho, ⟨rfl, rfl, rfl⟩, rfl, (fun e he => by simp at he), .nil, List.nodup_nil, (by decide), (by rfl), List.Pairwise.nil, by
    show _ ∨ (!w.params.followText "set-order") = true
    cases w.params.followText "set-order"
    · exact .inr rfl
    · exact .inl rfl⟩
/-- set(xs) of a list of texts -/
theorem call_setTx {l : Addr} {items : Array Value} {xs : List Str} {Q : Value → Shared → Prop} (hh : A.handled = none) (hl : s.heap.IsList l items) (hi : PyProof.Rows.StrsAre items.toList xs) (hn : xs.length < 1000)
    (h : ∀ (h' : Heap) (tk : Nat) (zs : List Str), TxS w h' s.heap.objs.size zs → (∀ z, z ∈ zs ↔ z ∈ xs) → zs.length ≤ xs.length → (∀ b o, s.heap.get? b = some o → h'.get? b = some o) → Q (.ref s.heap.objs.size) { s with heap := h', toks := tk }) :
    wpAny (model prog w) A (call (.type "set") [.ref l]) Q E s := by
  have size : xs.length = items.size := by rw [← StrsAre.len_eq hi, Array.length_toList]
  obtain ⟨cc, tl, mro⟩ := PySem.F.called_set.mro
  have made := PySem.F.called_set.made
  have sub0 := PySem.F.called_set.sub
  refine wpAny_call (codeAny_of_tree ?_)
  show wpAny (model prog w) _ (callAny (.type "set") _) _ E _
  refine wpAny_pure ⟨Code.quiet_builtin _ (by decide +kernel), codeAny_builtin PySem.F.entry_type_call ?_⟩
  rw [Around.under_plain (weight_type_call_type "set" [.ref l] []) rfl]
  have nt := PySem.F.called_set.notType
  have cre := PySem.F.called_set.canCreate
  have tc := PySem.F.typeCall_set_1 (.ref l)
  repeat (any_goals (first | assumption | wp_step))
  refine codeAny_mono (code_set_led1 (.ref l) (E := E) (Q₁ := fun obj s₁ => obj = .ref s.heap.objs.size ∧ s₁ = { s with heap := s.heap.push (newSetObj w) }) ⟨rfl, rfl⟩) fun r s₁ hr => ?_
  cases r with
  | error e => exact hr
  | ok fl =>
    cases fl with
    | ret obj =>
      obtain ⟨rfl, rfl⟩ := hr
      have hS : (s.heap.push (newSetObj w)).get? s.heap.objs.size = some (newSetObj w) := Heap.get?_push_size _ rfl
      have hT : Shared.TypeIs { s with heap := s.heap.push (newSetObj w) } (.ref s.heap.objs.size) "set" := ⟨_, hS, rfl⟩
      have li := PySem.F.called_set.init.lookup
      have bi := PySem.F.called_set.init.bind (.ref s.heap.objs.size)
      repeat (any_goals (first | assumption | wp_step))
      refine codeAny_mono (codeAny_call_builtin (R := wants (fun r s₂ => r = .none ∧ ∃ h' tk zs, s₂ = { s with heap := h', toks := tk } ∧ TxS w h' s.heap.objs.size zs ∧ (∀ z, z ∈ zs ↔ z ∈ xs) ∧ zs.length ≤ xs.length ∧ (∀ b o, s.heap.get? b = some o → h'.get? b = some o)) E) PySem.F.called_set.init.plain PySem.F.entry_set_init (check_set_init_1 hT ?_)) fun r₂ s₂ hr₂ => ?_
      · obtain ⟨ol, hol, hcl, nl, hdl⟩ := hl
        obtain ⟨ocls, odict, odata, oslots⟩ := ol
        simp only at hcl hdl
        subst hcl; subst hdl
        have hol' : (s.heap.push (newSetObj w)).get? l = some { cls := .type "list", dict := odict, data := .seq items nl, slots := oslots } := Heap.get?_push_of_some _ hol
        have q1 := PySem.F.sub_list_set
        have q2 := PySem.F.sub_list_frozenset
        have q3 : (Value.type "list" == Value.type "dict") = false := by decide
        have l1 : (s.heap.push (newSetObj w)).IsList l items := ⟨_, hol', rfl, nl, rfl⟩
        have lS : l < s.heap.objs.size := Heap.lt_size hol
        have sz1 : (s.heap.push (newSetObj w)).objs.size = s.heap.objs.size + 1 := Heap.size_push ..
        unfold Builtin.«set.__init__» noKeywords Builtin.Frozenset.updateFrom
        generalize hPI : pyIter = PI
        wp_walk
        subst hPI
        refine wpAny_pyIter_list l1 (wpAny_bind (wpAny_runValue ?_))
        have h3 : A.in1.in1.in1.handled = none := by simp [hh]
        have ne1 : l ≠ (s.heap.push (newSetObj w)).objs.size := by rw [sz1]; exact Nat.ne_of_lt (Nat.lt_succ_of_lt lS)
        have nf : s.heap.objs.size ∉ [(s.heap.push (newSetObj w)).objs.size, l] := fun z => by
          rcases List.mem_cons.mp z with z | z
          · rw [sz1] at z
            exact Nat.ne_of_lt (Nat.lt_succ_self _) z
          · exact Nat.ne_of_gt lS (List.mem_singleton.mp z)
        have hS2 : ((s.heap.push (newSetObj w)).push { cls := .type "list_iterator", data := .fields #[.ref l, .int 0 0] }).get? s.heap.objs.size = some (newSetObj w) := Heap.get?_push_of_some _ hS
        refine tx_loop ((Walks.list h3 _ l ne1 items).toS) s.heap.objs.size nf xs size (by omega) (fun i v hv => SS.strs_at hi i v (by rw [Array.getElem?_toList]; exact hv)) (items.size - 0) 0 _ [] (by omega) (Nat.zero_le _) ⟨⟨_, Heap.get?_push_size _ rfl, rfl, rfl⟩, (l1.push _)⟩ (tx_fresh hS2) (fun z => by simp) (Nat.zero_le _) ?_
        intro s' zn hm hz mz lz
        obtain ⟨h', g', d', tk', os'⟩ := s'
        have eg : g' = s.gens := hm.gens
        have ed : d' = s.drawn := hm.drawn
        have eo : os' = s.os := hm.os
        subst eg; subst ed; subst eo
        refine wpAny_pure ?_
        show wpAny (model prog w) _ (ret Value.none) _ _ _
        refine wpAny_pure ⟨rfl, h', tk', zn, rfl, hz, mz, by omega, fun b o e => ?_⟩
        have lb := Heap.lt_size e
        refine hm.heap b o (fun z => ?_) (Heap.get?_push_of_some _ (Heap.get?_push_of_some _ e))
        rcases List.mem_cons.mp z with z | z
        · exact Nat.ne_of_lt lb z
        · rw [List.mem_singleton.mp z, sz1] at lb
          exact Nat.lt_irrefl _ (Nat.lt_of_succ_lt lb)
      · cases r₂ with
        | error e => exact hr₂
        | ok fl₂ =>
          cases fl₂ with
          | ret r =>
            obtain ⟨rfl, h', tk, zs, rfl, hz, mz, lz, hk'⟩ := hr₂
            repeat (any_goals (first | assumption | wp_step))
            exact h _ _ zs hz mz lz hk'
          | _ => exact hr₂.elim
    | _ => exact hr.elim
/-- sorted of a set of texts -/
theorem strs_of : ∀ (vs : List Value), (∀ v ∈ vs, ∃ k t, v = Value.str k t) → PyProof.Rows.StrsAre vs (vs.map fun v => txK (0, v))
  | [], _ => .nil
  | v :: vs, h => by
    obtain ⟨k, t, rfl⟩ := h v (by simp)
    exact .cons k t (strs_of vs fun u hu => h u (List.mem_cons_of_mem _ hu))
theorem sorted_tx {a : Addr} {zs : List Str} {Q : Value → Shared → Prop} (R : TxS w s.heap a zs) (hh : A.handled = none) (h64 : zs.length < 64)
    (hQ : ∀ s' p (out : Array Value) (c : Nat) (ys : List Str), (∀ b o, s.heap.get? b = some o → s'.heap.get? b = some o) → s'.gens = s.gens → s'.os = s.os → s.heap.objs.size ≤ p →
      s'.heap.get? p = some (seqObj "list" out c) → PyProof.Rows.StrsAre out.toList ys → ys.Perm zs → sortedS ys = true → Q (.ref p) s') : wpAny (model prog w) A (call (.builtin "sorted") [.ref a]) Q E s := by
  obtain ⟨o, es, ep, t, ho, hex, hd, g, pz, nd, hb, hf, hr, hl⟩ := R
  refine Calls.call_function_entry kind_sorted plain_sorted entry_sorted (args_sorted1 _) ?_
  unfold Builtin.«sorted»
  refine wpAny_bind (m := checkCount "sorted" 1 1 _) (wpAny_pure (wpAny_bind (collect_set (A := A.in1) hh ⟨o, ho, hex.1, hd⟩ hf hb hr hl fun s1 vs k1 hz g1 o1 pm => ?_)))
  have hS : PyProof.Rows.StrsAre vs (vs.map fun v => txK (0, v)) := strs_of vs fun v hv => by
    obtain ⟨e, he, q⟩ := List.mem_map.mp (pm.mem_iff.mp hv)
    obtain ⟨k, tk, h1, _⟩ := g e he
    exact ⟨k, tk, by rw [← q]; exact h1⟩
  have pk : (vs.map fun v => txK (0, v)).Perm zs := by
    have q := pm.map fun v => txK (0, v)
    rw [List.map_map] at q
    exact q.trans pz
  have len : vs.length = zs.length := by rw [← pk.length_eq, List.length_map]
  refine wpAny_bind (wpAny_newList ?_ (by rw [len, sizeLine_eq]; omega))
  have hoL : (s1.heap.push (seqObj "list" vs.toArray 0)).get? s1.heap.objs.size = some (seqObj "list" vs.toArray 0) := Heap.get?_push_size _ rfl
  refine wpAny_bind (wpAny_holding (wpAny_call_entry slot_list_sort ⟨_, hoL, rfl⟩ entry_list_sort (list_sort_treeK PyProof.Rows.strKind_oneLt hoL hS.keysOf (fun v₁ v₂ rest e => PyProof.Rows.keyKind_strs (by rw [← e]; exact hS)) (by rw [len]; exact h64) fun st' hp hs => ⟨_, rfl, ?_⟩) (args_list_sort _)))
  obtain ⟨ys, a1, a2, a3⟩ := PyProof.Rows.sorted_out_str hS hp hs
  obtain ⟨c, hc⟩ := sortedHeap_at (vs := vs) (out := (arrOf st').map (·.2)) hoL
  refine wpAny_pure ⟨_, rfl, hQ _ s1.heap.objs.size _ c ys (fun b u e => ?_) g1 o1 hz hc a1 (a2.trans pk) a3⟩
  have q := k1 b u e
  have lt := Heap.lt_size q
  show (sortedHeap (s1.heap.push (seqObj "list" vs.toArray 0)) s1.heap.objs.size vs _).get? b = some u
  rw [sortedHeap_old (Nat.ne_of_lt lt) (by rw [size_push']; exact Nat.lt_succ_of_lt lt)]
  exact Heap.get?_push_of_some _ q
end
/-! ### as tracked things -/
def SetTx (w : World) (a : Addr) (zs : List Str) : HO := .ext fun h => TxS w h a zs
theorem setTx_new {P : Program} {w : World} {H : Hp} {h : Heap} {a : Addr} {zs : List Str} (R : TxS w h a zs) : ObjOk P w H h a (SetTx w a zs) := by
  refine ⟨R, ?_, fun h1 h2 p k => p.at k⟩
  obtain ⟨o, _, _, _, ho, _⟩ := R
  exact ⟨o, ho⟩
def rSetTx (K : PySem.W.Frag) (w : World) : List V → Hp → VK → Prop := fun vs H Q => ∃ (l : Addr) (xs : List Str), vs = [.ref l] ∧ SqL K H l (xs.map V.str) ∧ xs.length < 1000 ∧ ∀ p zs, H p = none → (∀ z, z ∈ zs ↔ z ∈ xs) → zs.Nodup → zs.length ≤ xs.length → Q (.ref p) (upd H p (SetTx w p zs))
def rSortTx (w : World) : List V → Hp → VK → Prop := fun vs H Q => ∃ (a : Addr) (zs : List Str), vs = [.ref a] ∧ H a = some (SetTx w a zs) ∧ zs.length < 64 ∧ ∀ p ys, H p = none → ys.Perm zs → sortedS ys = true → Q (.ref p) (upd H p (.lst (ys.map V.str)))
section
variable {X : Cx}
theorem cr_setTx (hc : X.calm = true) : CallR X (.type "set") (rSetTx X.K X.w) := by
  intro pins s σ H xs us Q I r h
  obtain ⟨l, xs, rfl, hl, hn, q⟩ := h
  rw [Vals.ref1 r]
  obtain ⟨its, rv, pl, hz⟩ := I.list hl
  have nn : H s.heap.objs.size = none := I.hok.fresh (Nat.le_refl _)
  refine call_setTx (I.ok.hd hc) pl.isList (by simpa using strsAre_of rv) hn fun h' tk zs R m le k => ?_
  have nd : zs.Nodup := by obtain ⟨_, _, _, _, _, _, _, _, _, nd, _⟩ := R; exact nd
  exact ⟨.ref s.heap.objs.size, upd H s.heap.objs.size (SetTx X.w s.heap.objs.size zs), I.laid (t' := tk) k (Nat.le_refl _) (setTx_new R), rfl, q _ zs nn m nd le⟩
theorem cr_sortTx (hc : X.calm = true) : CallR X (.builtin "sorted") (rSortTx X.w) := by
  intro pins s σ H vs us Q I r h
  obtain ⟨a, zs, rfl, ha, h64, q⟩ := h
  rw [Vals.ref1 r]
  refine sorted_tx (I.hok a _ ha).1 (I.ok.hd hc) h64 fun s' p out c ys k g o hp hg hi pm hs => ?_
  have hlen : (ys.map V.str).length ≤ sizeLine := by rw [List.length_map, pm.length_eq, sizeLine_eq]; omega
  have hn : H p = none := I.hok.fresh hp
  have J : Inv X pins σ (upd H p (.lst (ys.map V.str))) { s with heap := s'.heap, gens := s'.gens, drawn := s'.drawn, toks := s'.toks } :=
    I.call (ch := []) (Un.laid k hp hn) (I.hok.laid k hp ⟨hlen, out.toList, c, vals_of_strs hi, hg⟩) (by rw [g]; exact I.bare) (fun _ z => nomatch z)
  have e : s' = { s with heap := s'.heap, gens := s'.gens, drawn := s'.drawn, toks := s'.toks } := by cases s'; cases s; cases o; rfl
  rw [e]
  exact ⟨.ref p, _, J, rfl, q p ys hn pm hs⟩
end
end Zk
set_option Elab.async false
set_option linter.all false
set_option maxRecDepth 100000
set_option maxHeartbeats 2000000
/-! A dict comprehension given to a name; steps of dicts. -/
namespace Zk
open PySem PySem.Spec PyProof.Rows L2
theorem swD_true {kx vx : Expr} {gs : List Comprehension} {scope : Scope} {pos py : Pos} {y : Str} {l : Nat} {env : Env} (hk : env.scope.kind = .function) (hy : env.scope.names.lookup y = some .local) (hl : (py.line == pos.line) = true)
    (ha : (scope.names.any fun (n, k) => n == y && (k == .local || k == .cell)) = false) : swapsWith (.DictComp kx vx gs scope pos) (some (.Name y py)) l env = pure true := by
  have k1 : env.kindOf y = some .local := hy
  have k2 : env.blockKind = .function := by unfold Env.blockKind; rw [hk]; rfl
  unfold swapsWith
  simp only [k2, k1, ha, Expr.pos, hl]
  rfl
section
variable {X : Cx}
theorem ps_setDc {i : Nat} {y : Str} {py : Pos} {kx vx tg iter : Expr} {ifs : List Expr} {scope : Scope} {own : List (Str × Nat)} {pos spos : Pos} {wi : TI} {g : TG} {tt : TT} {tk tv : TE} (hc : X.calm = true) (hN : X.N.Nodup) (hy : X.N[i]? = some y) (hyl : X.env.scope.names.lookup y = some .local)
    (hsw : swapsWith (.DictComp kx vx [⟨tg, iter, ifs, 0⟩] scope pos) (some (.Name y py)) spos.line X.env = pure true) (hi : PI X tg iter wi) (ok : BlkOk X.N X.env.scope scope own)
    (hg : ∀ (s : Shared) (H : Hp) (C : Addr) (cl : List (Str × Addr)) (fp : List Addr), PG (X.blk s H scope (compEnvC scope cl C X.env) fp) tg g)
    (ht : ∀ (s : Shared) (H : Hp) (C : Addr) (cl : List (Str × Addr)) (fp : List Addr), PTs (X.blk s H scope (compEnvC scope cl C X.env) fp) ifs tt)
    (hk : ∀ (s : Shared) (H : Hp) (C : Addr) (cl : List (Str × Addr)) (fp : List Addr), PE (X.blk s H scope (compEnvC scope cl C X.env) fp) kx tk)
    (he : ∀ (s : Shared) (H : Hp) (C : Addr) (cl : List (Str × Addr)) (fp : List Addr), PE (X.blk s H scope (compEnvC scope cl C X.env) fp) vx tv) (hs : ∀ x, foldedSetIterable iter X.env x = pure x := by intro _; rfl) :
    PS X (.Assign [.Name y py] (.DictComp kx vx [⟨tg, iter, ifs, 0⟩] scope pos) spos) (tAsg (tDc wi g tt tk tv (own.map (·.2))) (gName i)) := by
  refine ⟨fun pins s σ H D I h => ?_⟩
  have h : tDc wi g tt tk tv (own.map (·.2)) σ H (fun x H1 => gName i x σ H1 D.nx) := h
  rw [exec_Assign_Name_used _ _ _ _ hsw]
  refine wpAny_bind (wpAny_standAt (wpAny_bind ?_))
  show wpAny (model X.prog X.w) X.A (do let _ ← comprehension (.DictComp kx vx [⟨tg, iter, ifs, 0⟩] scope pos) scope X.env (firstIterPos [⟨tg, iter, ifs, 0⟩] pos) _ false (eval iter X.env) (some (assign (.Name y py) X.env))) _ _ s
  refine wpAny_bind (thn (dc_core (Qf := fun _ s' => SP X pins D .next s') hc hN I hi ok hg ht hk he hs h fun L C s' m H' I' q hn f => ?_) fun _ s' hq => wpAny_pure (wpAny_pure hq))
  obtain ⟨f0, f1, f2, f3, f4, f5⟩ := f
  show wpAny (model X.prog X.w) X.A (assign (.Name y py) X.env (.ref L)) _ _ _
  refine wpAny_assign_Name (store_ok2 (v := V.ref L) I' hN hy (.inl hyl) rfl (fun s2 I2 ⟨a, sb, ha⟩ => ⟨m, hn.sameBut sb ?_, fun h3 sb3 => ⟨_, H', I2.turned (t' := s2.toks) (fun b o hb e => (sb3.2 b hb).trans e) f0 f1 f3 f4 f5, q⟩⟩) (.inr hyl))
  rcases ha with z | z
  · rw [z]; exact f1
  · exact fun e => f4 y a z e.symm
end
end Zk
set_option Elab.async false
set_option linter.all false
set_option maxRecDepth 100000
set_option maxHeartbeats 2000000
/-! Defs that raise errors of the program's own. -/
namespace Zk
open PySem PySem.Spec PyProof.Rows L2
/-- as okC, for a def that may raise -/
theorem okCX {P : Program} {w : World} {K : PySem.W.Frag} {mg : Str → Option Value} {base : Heap} {x qual : Str} {params : Arguments} {body : List Stmt} {scope : Scope} {f : Addr} {fd : FuncData} {N ps : List Str} {k : Nat} {sp : Sp} (F : FunD K x qual params body scope [] [] f fd) (S : FnScope N ps scope) (len : ∀ vs H Q E, sp vs H Q E → vs.length = ps.length)
    (hbody : ∀ (A : Around) (outer : List Env) (s : Shared) (H : Hp) (vs : List V) (Q : VK) (E : XK), Room k (A.deeper (envOfC qual scope s.heap.objs.size f fd.code)) → sp vs H Q E →
      ∃ t, PSs (cxOf (L2.CX P w) P w K mg base N qual scope f fd.code A outer s H E) body t ∧ t { nx := fun _ H' => Q .non H', rt := Q } (start N vs) H) : FnOk P w K mg base (L2.CX P w) (k + 1) f fd ps sp := by
  obtain ⟨oc, od, dV, kV, doc, pm, an, cdv, ct, osl, rfl, lk, hcd, _, _⟩ := F.ex
  exact fn_of lk hcd S len fun A outer s H vs Q E hr hsp => hbody A outer s H vs Q E hr hsp
/-- a def that may raise, by its name -/
def HasX (P : Program) (w : World) (K : PySem.W.Frag) (mg : Str → Option Value) (base : Heap) (k : Nat) (x : Str) (ps : List Str) (sp : Sp) : Prop :=
  ∃ f fd, FnOk P w K mg base (L2.CX P w) k f fd ps sp ∧ PySem.W.keepIn K (.ref f) = true ∧ Binds K fd ps [] ∧ mg x = some (.ref f)
theorem pe_callHX {X : Cx} {k : Nat} {x : Str} {ps : List Str} {sp : Sp} {e : Expr} {es : List Expr} {t : TA} {p pos : Pos} {W : WX} (h : HasX X.prog X.w X.K X.mg X.base k x ps sp) (hr : Room k X.A) (hg : Gl X x) (tk : Takes X W) (ha : PA X (e :: es) t)
    (hdb : (x == ("__debug__" : Str)) = false := by decide) (he : starEach (e :: es) X.env = (false, eval e X.env) :: starEach es X.env := by rfl) (hpl : (backTo pos (starEach es X.env)).any (·.1) = false := by rfl) :
    PE X (.Call (.Name x p) (e :: es) [] pos) (tCallS sp (WE W) t) := by
  obtain ⟨f, fd, F, hk, hb, hm⟩ := h
  exact pe_callS F hr hg hm hk hb (fun σ => passAt tk σ) ha hdb he hpl
theorem z_callS {sp : Sp} {E : L2.St → XK} {t : TA} {σ : L2.St} {H : Hp} {Q : VK} (q : t σ H fun vs H1 => sp vs H1 Q (E σ)) : tCallS sp E t σ H Q := q
/-- an error class of the program's own over ValueError, without an __init__ -/
structure ErrC (K : PySem.W.Frag) (C : Addr) : Prop where
  x : PySem.W.excIn K C [.type "ValueError", .type "Exception", .type "BaseException", .type "object"] "ValueError.__new__" = true
  k : PySem.W.keepIn K (.ref C) = true
  b : PySem.W.subIn K (.ref C) (.type "BaseException") = some true
  t : PySem.W.typeIn K (.ref C) = some (.type "type")
theorem pmk_err {X : Cx} {C : Addr} {x m : Str} {j : Nat} {p p2 pos : Pos} (c : ErrC X.K C) (g : X.mg x = some (.ref C)) (hg : Gl X x) (hdb : (x == ("__debug__" : Str)) = false := by decide) : PMk X (.Call (.Name x p) [.Constant (.str m) j p2] [] pos) (fun _ H Q => Q (.ref C) none H) :=
  pmk_own PySem.F.excBase_ValueError c.x g c.k (raises_own c.b c.t) hg hdb
theorem errC_of {K : PySem.W.Frag} {x : Str} (c : (He.Fa.exc x).ok K = true) : ErrC K (He.ga K x) := by
  obtain ⟨a, b, c, d⟩ := He.exc_ok c
  exact ⟨a, b, c, d⟩
/-- isinstance(e, c), e the exception that the suite holds, of a class D that is told by then -/
def rIsX (K : PySem.W.Frag) (cls : Value) (d : Option Addr) (a : Addr) : List V → Hp → VK → Prop := fun xs H Q => ∃ D, cls = .ref D ∧ d = none ∧ ExcC K D ∧ rIsE K D a xs H Q
theorem call_isX {X : Cx} (K : PySem.W.Frag) {a : Addr} {oe : Obj} {cls : Value} {d : Option Addr} {pn : List (Addr × Obj)} (hz : Zc cls d oe) (hf : ∃ vs, oe.data = .fields vs) (ek : X.K = K := by rfl) : CallR (X.suite a ((a, oe) :: pn)) (.builtin "isinstance") (rIsX K cls d a) := by
  rw [← ek]
  intro pins s σ H xs us Q I r h
  obtain ⟨D, rfl, rfl, C, h⟩ := h
  exact call_isE C hz hf pins s σ H xs us Q I r h
def rIsXT (K : PySem.W.Frag) (cls : Value) (d : Option Addr) (a : Addr) : List V → Hp → VK → Prop := fun xs H Q => ∃ (D t : Addr) (cs : List Addr) (b : Bool), cls = .ref D ∧ d = none ∧ ExcC K D ∧ xs = [.ref a, .ref t] ∧ H t = some (.tup (cs.map V.ref)) ∧ PySem.W.kitAny K (.ref D) (cs.map Value.ref) = some b ∧ Q (.bl b) H
theorem vals_refs : ∀ {cs : List Addr} {us : List Value}, Vals (cs.map V.ref) us → us = cs.map Value.ref
  | [], us, h => by cases h; rfl
  | c :: cs, us, h => by
    rw [List.map_cons] at h
    cases h with
    | cons r t =>
      cases r
      rw [vals_refs t, List.map_cons]
theorem call_isXT {X : Cx} (K : PySem.W.Frag) {a : Addr} {oe : Obj} {cls : Value} {d : Option Addr} {pn : List (Addr × Obj)} (hz : Zc cls d oe) (hf : ∃ vs, oe.data = .fields vs) (ek : X.K = K := by rfl) : CallR (X.suite a ((a, oe) :: pn)) (.builtin "isinstance") (rIsXT K cls d a) := by
  rw [← ek]
  intro pins s σ H xs us Q I r h
  obtain ⟨D, t, cs, b, rfl, rfl, C, rfl, ht, e, q⟩ := h
  cases r with
  | cons rx rr =>
    cases rr with
    | cons rt rr =>
      cases rr
      cases rx
      cases rt
      obtain ⟨hget, _⟩ := I.pin (a, oe) (List.mem_append.mpr (.inl List.mem_cons_self))
      obtain ⟨vs, hv⟩ := hf
      have J : PySem.W.InstAt s.heap a oe D none := by
        obtain ⟨oc, od, oda, osl⟩ := oe
        obtain ⟨h1, h2⟩ := hz
        dsimp only at h1 h2 hv
        subst h1 h2 hv
        exact ⟨hget, rfl, rfl, trivial⟩
      obtain ⟨z, its, rv, p⟩ := I.hok t _ ht
      have ei := vals_refs rv
      subst ei
      obtain ⟨⟨c1, d1, da1, sl1⟩, g1, g2, n, g3⟩ := p
      dsimp only at g2 g3
      subst g2 g3
      exact PySem.W.kia_tup (PySem.W.handS_kitx_exc C.hg C.hk C.hs C.hd C.ha C.hn C.ht C.hm) I.kIn J g1 e (fun z => nomatch z) fun tk => ⟨.bl b, H, I.kept (t' := tk) fun _ _ z => z, rfl, q⟩
/-- what the class D says, and of which classes its instances are and aren't -/
def excB (K : PySem.W.Frag) (D : Addr) (yes no : List Value) : Bool :=
  decide (PySem.W.findIn K (.ref D) "__getattribute__" = some (some (.builtin "BaseException.__getattribute__"))) && (decide (PySem.W.findIn K (.ref D) "__getattr__" = some none) && (decide (PySem.W.subIn K (.ref D) (.type "BaseException") = some true) && (PySem.W.hasDictIn K D &&
  (decide (PySem.W.findIn K (.ref D) "__class__" = some (some (.builtin "object.__class__"))) && (decide (PySem.W.specialIn K (.builtin "object.__class__") "__get__" = some (some (.builtin "getset_descriptor.__get__"))) && (decide (PySem.W.takesIn K (.builtin "object.__class__") = some true) && (decide (PySem.W.mroIn K D (.type "object") = some true) &&
  (yes.all (fun c => decide (PySem.W.kitOne K (.ref D) c = some true)) && decide (PySem.W.kitAny K (.ref D) no = some false)))))))))
theorem excB_ok {K : PySem.W.Frag} {D : Addr} {yes no : List Value} (h : excB K D yes no = true) : ExcC K D ∧ (∀ c ∈ yes, PySem.W.kitOne K (.ref D) c = some true) ∧ PySem.W.kitAny K (.ref D) no = some false := by
  unfold excB at h
  simp only [Bool.and_eq_true, decide_eq_true_eq, List.all_eq_true] at h
  obtain ⟨h1, h2, h3, h4, h5, h6, h7, h8, h9, h10⟩ := h
  exact ⟨⟨h1, h2, h3, h4, h5, h6, h7, h8⟩, h9, h10⟩
/-- dict(xs) of a list of pairs -/
def rDictQ (K : PySem.W.Frag) : List V → Hp → VK → Prop := fun xs H Q => ∃ (a : Addr) (ps : List Addr) (kvs : List (Key × V)), xs = [.ref a] ∧ SqL K H a (ps.map V.ref) ∧ Paired (fun p kv => SqT K H p [kV kv.1, kv.2]) ps kvs ∧
    ∀ p, H p = none → Q (.ref p) (upd H p (.dK (mergeK [] kvs)))
theorem call_dictQ {X : Cx} (K : PySem.W.Frag) (hc : X.calm = true) (e : X.K = K := by rfl) : CallR X (.type "dict") (rDictQ K) := by rw [← e]; exact call_dictP hc
theorem units65 {k : Nat} {A : Around} (r : Room k A) : A.units + 65 < cLine := by have := r.un; omega
theorem op_inDE {X : Cx} (K : PySem.W.Frag) (hu : X.A.units + 65 < cLine) (e : X.K = K := by rfl) : OpR X (compareOp .In) (rInD K) := by rw [← e]; exact op_inD hu
theorem TyV.noLst {H : Hp} {v : V} {n : String} (h : TyV H v n) (ne : n ≠ "list") : kitB n "list" = some false := by
  cases h <;> first | decide +kernel | exact absurd rfl ne
end Zk
set_option Elab.async false
set_option linter.all false
set_option maxRecDepth 100000
set_option maxHeartbeats 2000000
/-! Objects of the program's own classes: methods and makings by their names. -/
namespace Zk
open PySem PySem.Spec PyProof.Rows L2
/-- a method that raises nothing, by its class and name -/
def HasM (P : Program) (w : World) (K : PySem.W.Frag) (mg : Str → Option Value) (base : Heap) (k : Nat) (C : Addr) (m : Str) (ps : List Str) (sp : Sp) : Prop :=
  ∃ f fd, FnOk P w K mg base CX0 k f fd ps sp ∧ Cls K C ∧ Meth K C m f ∧ Binds K fd ps []
/-- the making of an object, by its class -/
def HasC (P : Program) (w : World) (K : PySem.W.Frag) (mg : Str → Option Value) (base : Heap) (k : Nat) (C : Addr) (x : Str) (ps : List Str) (sp : Sp) : Prop :=
  ∃ f fd, FnOk P w K mg base CX0 k f fd ps sp ∧ Mk K C f ∧ Binds K fd ps [] ∧ mg x = some (.ref C)
section
variable {X : Cx} {k : Nat} {C : Addr} {ps : List Str} {sp : Sp} {x m : Str} {p pos apos : Pos} {e o : Expr} {es : List Expr} {ta : TE} {t : TA}
theorem pe_mH {pl : Sem Bool} (h : HasM X.prog X.w X.K X.mg X.base k C m ps sp) (he : PE X o ta) (hr : Room k X.A) (ha : PA X (e :: es) t)
    (hst : starEach (e :: es) X.env = (false, eval e X.env) :: starEach es X.env := by rfl) (hpl : (backTo pos (starEach es X.env)).any (·.1) = false := by rfl)
    (ht : eval (.Call (.Attribute o m apos) (e :: es) [] pos) X.env = (do
      let ov ← eval o X.env
      standAt apos.atName
      let (f, first) ← holding [ov] (getMethod ov m pl)
      callWith pos f first (backTo pos (starEach (e :: es) X.env)) (backToKw pos (keywordEach [] X.env))) := by rfl) :
    PE X (.Call (.Attribute o m apos) (e :: es) [] pos) (tMeth C m sp [] E0 ta t) := by
  obtain ⟨f, fd, F, c, hm, hb⟩ := h
  exact pe_meth (pl := pl) he c hm F hr hb .nil pass0 ha hst hpl ht
theorem pe_mH0 {pl : Sem Bool} (h : HasM X.prog X.w X.K X.mg X.base k C m ps sp) (he : PE X o ta) (hr : Room k X.A)
    (ht : eval (.Call (.Attribute o m apos) [] [] pos) X.env = (do
      let ov ← eval o X.env
      standAt apos.atName
      let (f, first) ← holding [ov] (getMethod ov m pl)
      callWith pos f first (backTo pos (starEach [] X.env)) (backToKw pos (keywordEach [] X.env))) := by rfl) :
    PE X (.Call (.Attribute o m apos) [] [] pos) (tMeth C m sp [] E0 ta tNil) := by
  obtain ⟨f, fd, F, c, hm, hb⟩ := h
  exact pe_meth0 (pl := pl) he c hm F hr hb .nil pass0 ht
theorem pe_newH (h : HasC X.prog X.w X.K X.mg X.base k C x ps sp) (hr : Room (k + 1) X.A) (hg : Gl X x) (ha : PA X (e :: es) t)
    (hdb : (x == ("__debug__" : Str)) = false := by decide) (he : starEach (e :: es) X.env = (false, eval e X.env) :: starEach es X.env := by rfl) (hpl : (backTo pos (starEach es X.env)).any (·.1) = false := by rfl) :
    PE X (.Call (.Name x p) (e :: es) [] pos) (tMake C sp [] E0 t) := by
  obtain ⟨f, fd, F, M, hb, hm⟩ := h
  exact pe_make M F hr hg hm hb .nil pass0 ha hdb he hpl
theorem z_meth {σ : L2.St} {H : Hp} {Q : VK} {ta : TE} {t : TA} (q : ta σ H fun x H1 => ∃ a dx fs, x = .ref a ∧ H1 a = some (.ins C dx fs) ∧ fs.lookup m = none ∧ t σ H1 fun vs H2 => sp (x :: (vs ++ [])) H2 Q E0) : tMeth C m sp [] E0 ta t σ H Q := q
theorem z_fld {K : PySem.W.Frag} {σ : L2.St} {H : Hp} {Q : VK} {ta : TE} {f : Str} (q : ta σ H fun x H1 => ∃ a C dx fs v, x = .ref a ∧ H1 a = some (.ins C dx fs) ∧ Cls K C ∧ NoAttr K C f ∧ fs.lookup f = some v ∧ Q v H1) : tFld K ta f σ H Q := q
theorem z_sfld {K : PySem.W.Frag} {D : Ends} {σ : L2.St} {H : Hp} {ta tv : TE} {f : Str} (q : tv σ H fun y H1 => ta σ H1 fun x H2 => ∃ a C dx fs, x = .ref a ∧ H2 a = some (.ins C dx fs) ∧ Cls K C ∧ NoAttr K C f ∧ fs.length < 1000 ∧ D.nx σ (upd H2 a (.ins C dx (putF f y fs)))) : sFld K ta tv f D σ H := q
end
end Zk
set_option Elab.async false
set_option linter.all false
set_option maxRecDepth 100000
set_option maxHeartbeats 2000000
set_option pp.maxSteps 200
/-! sorted(xs), xs a list of tuples, each with another text ahead. -/
namespace Zk
open PySem PySem.Spec PyProof.Rows L2
theorem txt_irr (a : List Nat) : ¬ a < a := by
  induction a with
  | nil => intro h; cases h
  | cons x a ih =>
    intro h
    cases h with
    | rel h => exact Nat.lt_irrefl _ h
    | cons h => exact ih h
theorem lex_tri : ∀ a b : List Nat, a < b ∨ a = b ∨ b < a
  | [], [] => .inr (.inl rfl)
  | [], _ :: _ => .inl List.Lex.nil
  | _ :: _, [] => .inr (.inr List.Lex.nil)
  | x :: a, y :: b => by
    rcases Nat.lt_trichotomy x y with h | h | h
    · exact .inl (List.Lex.rel h)
    · subst h
      rcases lex_tri a b with h | h | h
      · exact .inl (List.Lex.cons h)
      · exact .inr (.inl (by rw [h]))
      · exact .inr (.inr (List.Lex.cons h))
    · exact .inr (.inr (List.Lex.rel h))
theorem lex_asym : ∀ a b : List Nat, a < b → ¬ b < a
  | [], _, _, h => by cases h
  | x :: a, [], h, _ => by cases h
  | x :: a, y :: b, h, g => by
    cases h with
    | rel h =>
      cases g with
      | rel g => omega
      | cons g => omega
    | cons h =>
      cases g with
      | rel g => omega
      | cons g => exact lex_asym a b h g
theorem str_ext {x y : Str} (h : x.cps.toList = y.cps.toList) : x = y := by
  cases x; cases y
  exact congrArg Str.mk (Array.ext' h)
theorem lex_trans : ∀ a b c : List Nat, a < b → b < c → a < c
  | _, _, [], _, h => by cases h
  | [], _, _ :: _, _, _ => List.Lex.nil
  | _ :: _, [], _ :: _, h, _ => by cases h
  | x :: a, y :: b, z :: c, h, g => by
    cases h with
    | rel h =>
      cases g with
      | rel g => exact List.Lex.rel (Nat.lt_trans h g)
      | cons g => exact List.Lex.rel h
    | cons h =>
      cases g with
      | rel g => exact List.Lex.rel g
      | cons g => exact List.Lex.cons (lex_trans a b c h g)
theorem not_lt_trans {a b c : List Nat} (h : ¬ b < a) (g : ¬ c < b) : ¬ c < a := fun z => by
  rcases lex_tri a b with q | q | q
  · exact g (lex_trans _ _ _ z q)
  · rw [q] at z; exact g z
  · exact h q
theorem rise_all : ∀ (l : List Str) (p : Str), risingS p l = true → ∀ x ∈ l, ¬ x.cps.toList < p.cps.toList
  | [], _, _, x, hx => by cases hx
  | y :: l, p, h, x, hx => by
    unfold risingS at h
    rw [Bool.and_eq_true, ltCps_eq] at h
    have h1 : ¬ y.cps.toList < p.cps.toList := fun z => by rw [decide_eq_true z] at h; cases h.1
    rcases List.mem_cons.mp hx with rfl | hx
    · exact h1
    · exact not_lt_trans h1 (rise_all l y h.2 x hx)
theorem sorted_tail {x : Str} {l : List Str} (h : sortedS (x :: l) = true) : sortedS l = true := by
  cases l with
  | nil => rfl
  | cons y l =>
    have h : risingS x (y :: l) = true := h
    unfold risingS at h
    rw [Bool.and_eq_true] at h
    exact h.2
theorem sorted_one : ∀ {l m : List Str}, sortedS l = true → sortedS m = true → l.Perm m → l = m
  | [], m, _, _, p => by rw [List.nil_perm.mp p]
  | x :: l, [], _, _, p => by have := p.length_eq; simp at this
  | x :: l, y :: m, hl, hm, p => by
    have e : x = y := by
      have hx : x ∈ y :: m := p.mem_iff.mp (by simp)
      have hy : y ∈ x :: l := p.mem_iff.mpr (by simp)
      rcases List.mem_cons.mp hx with e | hx
      · exact e
      · rcases List.mem_cons.mp hy with e | hy
        · exact e.symm
        · have a1 := rise_all m y hm x hx
          have a2 := rise_all l x hl y hy
          rcases lex_tri x.cps.toList y.cps.toList with q | q | q
          · exact absurd q a1
          · exact str_ext q
          · exact absurd q a2
    subst e
    rw [sorted_one (sorted_tail hl) (sorted_tail hm) p.cons_inv]
/-- how many of these stand ahead of z -/
def rkT (l : List Str) (z : Str) : Nat := l.countP fun y => decide (y.cps.toList < z.cps.toList)
theorem countP_lt {α : Type} {p q : α → Bool} {x : α} : ∀ {l : List α}, (∀ y ∈ l, p y = true → q y = true) → x ∈ l → p x = false → q x = true → l.countP p < l.countP q
  | [], _, h, _, _ => by simp at h
  | y :: l, im, h, h1, h2 => by
    have le : l.countP p ≤ l.countP q := List.countP_mono_left fun z hz => im z (List.mem_cons_of_mem _ hz)
    rw [List.countP_cons, List.countP_cons]
    rcases List.mem_cons.mp h with e | h
    · subst e
      rw [if_neg (by rw [h1]; decide), if_pos h2]
      omega
    · have ih := countP_lt (fun z hz => im z (List.mem_cons_of_mem _ hz)) h h1 h2
      have := im y (by simp)
      cases hp : p y with
      | false => rw [if_neg (by decide)]; omega
      | true => rw [this hp, if_pos rfl]; omega
theorem rk_lt {l : List Str} {x y : Str} (hx : x ∈ l) (h : x.cps.toList < y.cps.toList) : rkT l x < rkT l y :=
  countP_lt (x := x) (fun z _ hz => decide_eq_true (lex_trans _ _ _ (of_decide_eq_true hz) h)) hx (decide_eq_false (txt_irr _)) (decide_eq_true h)
theorem rk_dec {l : List Str} {x y : Str} (hx : x ∈ l) (hy : y ∈ l) : decide (x.cps.toList < y.cps.toList) = decide ((rkT l x : Int) < (rkT l y : Int)) := by
  refine decide_eq_decide.mpr ⟨fun h => by have := rk_lt hx h; omega, fun h => ?_⟩
  rcases lex_tri x.cps.toList y.cps.toList with q | q | q
  · exact q
  · have e : x = y := str_ext q
    subst e
    omega
  · have := rk_lt hy q
    omega
/-- the value is a tuple with this text ahead -/
def TxTup (h : Heap) (v : Value) (z : Str) : Prop := ∃ (a : Addr) (xs : Array Value) (t : Tok), v = .ref a ∧ IsTup h a xs ∧ xs.toList.head? = some (.str z t)
theorem TxTup.keeps {h h' : Heap} {v : Value} {z : Str} (x : TxTup h v z) (k : ∀ b o, h.get? b = some o → o.cls = .type "tuple" → h'.get? b = some o) : TxTup h' v z := by
  obtain ⟨a, xs, t, e, ⟨o, ho, hc, r⟩, hd⟩ := x
  exact ⟨a, xs, t, e, ⟨o, k _ _ ho hc, hc, r⟩, hd⟩
def hdTx (h : Heap) (v : Value) : Str := DT.txOf (DT.seqAt0 h (DT.refOf (some v)))
theorem TxTup.tx {h : Heap} {v : Value} {z : Str} (x : TxTup h v z) : hdTx h v = z := by
  obtain ⟨a, xs, t, rfl, ht, hd⟩ := x
  show DT.txOf (DT.seqAt0 h a) = z
  rw [DT.seqAt0_of ht, hd]
  rfl
theorem tx_firsts {h : Heap} : ∀ vs : List Value, (∀ v ∈ vs, ∃ z, TxTup h v z) → ∃ fs, PySem.W.KatTups h vs fs ∧ fs.length = vs.length ∧ ∀ f, f ∈ fs → ∃ z t, f = Value.str z t
  | [], _ => ⟨[], PySem.W.KatTups.nil, rfl, fun f hf => by simp at hf⟩
  | v :: vs, x => by
    obtain ⟨fs, k, hl, hi⟩ := tx_firsts vs fun u hu => x u (List.mem_cons_of_mem _ hu)
    obtain ⟨z, a, xs, t, rfl, ⟨o, ho, hc, n, hd⟩, hh⟩ := x v (List.mem_cons_self ..)
    refine ⟨.str z t :: fs, PySem.W.KatTups.cons ho hc hd ?_ k, by simp [hl], fun f hf => ?_⟩
    · rw [← Array.getElem?_toList, ← List.head?_eq_getElem?]; exact hh
    · rcases List.mem_cons.mp hf with rfl | hf
      · exact ⟨z, t, rfl⟩
      · exact hi f hf
section
variable {prog : Program} {w : World} {A : Around} {E : Value → Shared → Prop} {s : Shared}
theorem lex_self {Q : Bool → Shared → Prop} {b : Bool} : ∀ {l : List Value} {i : Nat}, Q false s → PySem.W.KatLex prog w A b false Q (l.zip l) i s
  | [], i, h => PySem.W.kat_nil h
  | v :: l, i, h => PySem.W.kat_cons (SeqAt.EqAt.same v prog w _ _ (PySem.W.kat_yes (lex_self h)))
theorem kind_tx {vs : List Value} {ρ : Str → Int} (h2 : 2 ≤ vs.length) (x : ∀ v ∈ vs, ∃ z, TxTup s.heap v z) (inj : ∀ v ∈ vs, ∀ u ∈ vs, hdTx s.heap v = hdTx s.heap u → v = u)
    (hρ : ∀ v ∈ vs, ∀ u ∈ vs, decide ((hdTx s.heap v).cps.toList < (hdTx s.heap u).cps.toList) = decide (ρ (hdTx s.heap v) < ρ (hdTx s.heap u))) (Q : SortKind → Shared → Prop)
    (h : ∀ κ, TS.Cmp prog w A s κ (pairsOf vs) (fun v => ρ (hdTx s.heap v)) → Q κ s) : wpAny (model prog w) A (keyKind' vs.toArray) Q E s := by
  obtain ⟨fs, k, hl, hi⟩ := tx_firsts vs x
  refine PySem.W.kat_kind (T := Value.type "str") k (by omega) (fun f hf => ?_) rfl (h _ ?_)
  · obtain ⟨n, t, rfl⟩ := hi f hf
    exact PySem.W.Looks.of_pure rfl
  · have hb : (Value.type "str" != Value.type "tuple") = true := by first | rfl | decide | simp
    rw [hb]
    intro p q hp hq Q' E' hQ
    rw [pairsOf_toList] at hp hq
    have mp := (mem_zip_self hp).2
    have mq := (mem_zip_self hq).2
    obtain ⟨y, py⟩ := x _ mp
    obtain ⟨z, pz⟩ := x _ mq
    by_cases e : p.1 = q.1
    · have hQ' : Q' false s := by
        have hQ2 : Q' (decide (ρ (hdTx s.heap p.1) < ρ (hdTx s.heap q.1))) s := hQ
        rw [e, decide_eq_false (Int.lt_irrefl _)] at hQ2
        exact hQ2
      rw [← e]
      obtain ⟨a, xs, t, e1, ⟨o, ho, hc, n, hd⟩, _⟩ := py
      rw [e1]
      refine PySem.W.kat_lt ho hd ho hd ?_
      rw [decide_eq_false (Nat.lt_irrefl _)]
      exact lex_self hQ'
    · have ne : y ≠ z := fun q' => e (inj _ mp _ mq (by rw [py.tx, pz.tx, q']))
      have hQ' : Q' (decide (y.cps.toList < z.cps.toList)) s := by
        have hr := hρ _ mp _ mq
        have hQ2 : Q' (decide (ρ (hdTx s.heap p.1) < ρ (hdTx s.heap q.1))) s := hQ
        rw [← hr, py.tx, pz.tx] at hQ2
        exact hQ2
      obtain ⟨a, xs, t, e1, ⟨o, ho, hc, n, hd⟩, h1⟩ := py
      obtain ⟨a', ys, t', e2, ⟨o', ho', hc', n', hd'⟩, h1'⟩ := pz
      rw [e1, e2]
      refine PySem.W.kat_lt ho hd ho' hd' ?_
      obtain ⟨xr, ex⟩ : ∃ xr, xs.toList = .str y t :: xr := by
        cases q : xs.toList with
        | nil => rw [q] at h1; cases h1
        | cons v r => rw [q] at h1; cases h1; exact ⟨r, rfl⟩
      obtain ⟨yr, ey⟩ : ∃ yr, ys.toList = .str z t' :: yr := by
        cases q : ys.toList with
        | nil => rw [q] at h1'; cases h1'
        | cons v r => rw [q] at h1'; cases h1'; exact ⟨r, rfl⟩
      rw [ex, ey]
      show PySem.W.KatLex prog w A true _ Q' ((Value.str y t, Value.str z t') :: xr.zip yr) 0 s
      refine PySem.W.kat_cons (wpAny_eqBool_str ?_)
      rw [decide_eq_false ne]
      exact PySem.W.kat_no (oneLt_str hQ')
theorem sort_tx {a : Addr} {vs : List Value} {n : Nat} {ρ : Str → Int} {P : PySem.Fin → Shared → Prop} (ho : s.heap.get? a = some (seqObj "list" vs.toArray n)) (h64 : vs.length < 64) (x : ∀ v ∈ vs, ∃ z, TxTup s.heap v z) (inj : ∀ v ∈ vs, ∀ u ∈ vs, hdTx s.heap v = hdTx s.heap u → v = u)
    (hρ : ∀ v ∈ vs, ∀ u ∈ vs, decide ((hdTx s.heap v).cps.toList < (hdTx s.heap u).cps.toList) = decide (ρ (hdTx s.heap v) < ρ (hdTx s.heap u)))
    (h : ∀ out : Array Value, out.toList.Perm vs → out.toList.Pairwise (fun u v => ρ (hdTx s.heap u) ≤ ρ (hdTx s.heap v)) → P (.done (.ret .none)) { s with heap := sortedHeap s.heap a vs out }) :
    wpAny (model prog w) A (Builtin.«list.sort» ⟨[.ref a], []⟩) P E s := by
  have keep : ∀ b o, s.heap.get? b = some o → o.cls = .type "tuple" → (TS.midHeap s.heap a vs).get? b = some o := fun b o e hc => by
    refine TS.midHeap_old ?_ e
    rintro rfl
    rw [ho] at e
    have e' : seqObj "list" vs.toArray n = o := Option.some.inj e
    rw [← e'] at hc
    have c' : Value.type "list" = Value.type "tuple" := hc
    injection c' with c''
    exact absurd c'' (by decide)
  have tx : ∀ v ∈ vs, hdTx (TS.midHeap s.heap a vs) v = hdTx s.heap v := fun v hv => by
    obtain ⟨z, hz⟩ := x v hv
    rw [hz.tx, (hz.keeps keep).tx]
  refine SK.plain_sort (r := fun v => ρ (hdTx (TS.midHeap s.heap a vs) v)) ho h64 (fun h2 Q hQ => ?_) fun ps out h1 h2 h3 => ?_
  · refine kind_tx (s := { s with heap := TS.midHeap s.heap a vs }) (ρ := ρ) h2 (fun v hv => ?_) (fun v hv u hu => ?_) (fun v hv u hu => ?_) Q hQ
    · obtain ⟨z, hz⟩ := x v hv
      exact ⟨z, hz.keeps keep⟩
    · show hdTx (TS.midHeap s.heap a vs) v = hdTx (TS.midHeap s.heap a vs) u → _
      rw [tx v hv, tx u hu]
      exact inj v hv u hu
    · show decide ((hdTx (TS.midHeap s.heap a vs) v).cps.toList < (hdTx (TS.midHeap s.heap a vs) u).cps.toList) = decide (ρ (hdTx (TS.midHeap s.heap a vs) v) < ρ (hdTx (TS.midHeap s.heap a vs) u))
      rw [tx v hv, tx u hu]
      exact hρ v hv u hu
  · obtain ⟨p, o⟩ := TS.out_rank (r := fun v => ρ (hdTx (TS.midHeap s.heap a vs) v)) h1 h2 h3
    refine h out p (List.Pairwise.imp_of_mem (fun {u v} hu hv q => ?_) o)
    have q' : ρ (hdTx (TS.midHeap s.heap a vs) u) ≤ ρ (hdTx (TS.midHeap s.heap a vs) v) := q
    rw [tx u (p.mem_iff.mp hu), tx v (p.mem_iff.mp hv)] at q'
    exact q'
end
/-- a tuple at p: a text ahead, then the rest -/
abbrev TtE := Addr × Str × List V
def rSortE (K : PySem.W.Frag) : List V → Hp → VK → Prop := fun vs H Q => ∃ (a : Addr) (ts : List TtE), vs = [V.ref a] ∧ SqL K H a (ts.map fun t => V.ref t.1) ∧ ts.length < 64 ∧ (∀ t ∈ ts, H t.1 = some (.tup (.str t.2.1 :: t.2.2))) ∧ (ts.map (·.2.1)).Nodup ∧
  ∀ (us : List TtE) (p : Addr), us.Perm ts → (us.map (·.2.1)).Pairwise (fun a b => a.cps.toList < b.cps.toList) → H p = none → Q (.ref p) (upd H p (.lst (us.map fun t => V.ref t.1)))
theorem vals_txe : ∀ us : List TtE, Vals (us.map fun t => V.ref t.1) (us.map fun t => Value.ref t.1)
  | [] => .nil
  | _ :: us => .cons rfl (vals_txe us)
theorem txe_vals {us : List Value} : ∀ {ts : List TtE}, Vals (ts.map fun t => V.ref t.1) us → us = ts.map fun t => Value.ref t.1
  | [], h => by cases h; rfl
  | t :: ts, h => by
    rw [List.map_cons] at h
    cases h with
    | cons r g =>
      cases r
      rw [txe_vals g, List.map_cons]
theorem cr_sortE {X : Cx} (K : PySem.W.Frag) (e : X.K = K := by rfl) : CallR X (.builtin "sorted") (rSortE K) := by
  rw [← e]
  rintro pins s σ H vs us0 Q I r ⟨a, ts, rfl, hs, h64, ht, nd, q⟩
  obtain ⟨_, rv, hl, _⟩ := I.list hs
  rw [Vals.ref1 r]
  cases txe_vals rv
  obtain ⟨o, ho, hc, n, hd⟩ := hl.isList
  have lts : (ts.map fun t => Value.ref t.1).length < 64 := by rw [List.length_map]; exact h64
  have lsz : (ts.map fun t => Value.ref t.1).length ≤ sizeLine := by rw [sizeLine_eq]; omega
  have uq : ∀ t ∈ ts, ∀ u ∈ ts, t.2.1 = u.2.1 → t = u := fun t m1 u m2 e => by
    obtain ⟨i, hi, ei⟩ := List.getElem_of_mem m1
    obtain ⟨j, hj, ej⟩ := List.getElem_of_mem m2
    have pw : ts.Pairwise (fun x y => x.2.1 ≠ y.2.1) := List.pairwise_map.mp nd
    rcases Nat.lt_trichotomy i j with c | c | c
    · have := List.pairwise_iff_getElem.mp pw i j hi hj c
      rw [ei, ej] at this
      exact absurd e this
    · subst c
      exact ei.symm.trans ej
    · have := List.pairwise_iff_getElem.mp pw j i hj hi c
      rw [ei, ej] at this
      exact absurd e.symm this
  refine Calls.call_function_entry kind_sorted plain_sorted entry_sorted (args_sorted1 _) ?_
  unfold Builtin.«sorted»
  refine wpAny_bind (m := checkCount "sorted" 1 1 _) (wpAny_pure (wpAny_bind (wpAny_collect_seq (A := X.A.in1) a (T := "list") (.inl rfl) ho hc hd (fun h1 k1 => ?_) (by rw [List.size_toArray]; exact lsz))))
  have I1 : Inv X pins σ H { s with heap := h1 } := I.kept (t' := s.toks) k1
  rw [show (ts.map fun t => Value.ref t.1).toArray.toList = ts.map fun t => Value.ref t.1 by simp]
  refine wpAny_bind (wpAny_newList ?_ lsz)
  have hoL : (h1.push (seqObj "list" (ts.map fun t => Value.ref t.1).toArray 0)).get? h1.objs.size = some (seqObj "list" (ts.map fun t => Value.ref t.1).toArray 0) := Heap.get?_push_size _ rfl
  have up : ∀ b o, s.heap.get? b = some o → (h1.push (seqObj "list" (ts.map fun t => Value.ref t.1).toArray 0)).get? b = some o := fun b o z => Heap.get?_push_of_some _ (k1 b o z)
  have txt : ∀ t ∈ ts, TxTup (h1.push (seqObj "list" (ts.map fun t => Value.ref t.1).toArray 0)) (.ref t.1) t.2.1 := fun t hm => by
    obtain ⟨_, its2, r2, o, ho, hc, n, hd⟩ := I.hok _ _ (ht t hm)
    cases r2 with
    | cons r1 r2 =>
      obtain ⟨tk, rfl⟩ := r1
      exact ⟨t.1, _, tk, rfl, ⟨o, up _ _ ho, hc, n, hd⟩, by simp⟩
  refine wpAny_bind (wpAny_holding (wpAny_call_entry slot_list_sort ⟨_, hoL, rfl⟩ entry_list_sort (sort_tx (s := { s with heap := h1.push (seqObj "list" (ts.map fun t => Value.ref t.1).toArray 0) }) (ρ := fun z => (rkT (ts.map (·.2.1)) z : Int)) hoL lts (fun v hv => ?_) (fun v hv u hu => ?_) (fun v hv u hu => ?_) fun out p1 p2 => ⟨_, rfl, ?_⟩) (args_list_sort _)))
  · obtain ⟨t, hm, rfl⟩ := List.mem_map.mp hv
    exact ⟨_, txt t hm⟩
  · obtain ⟨t, hm, rfl⟩ := List.mem_map.mp hv
    obtain ⟨u, hm2, rfl⟩ := List.mem_map.mp hu
    show hdTx (h1.push _) _ = hdTx (h1.push _) _ → _
    rw [(txt t hm).tx, (txt u hm2).tx]
    intro e
    rw [uq t hm u hm2 e]
  · obtain ⟨t, hm, rfl⟩ := List.mem_map.mp hv
    obtain ⟨u, hm2, rfl⟩ := List.mem_map.mp hu
    show decide ((hdTx (h1.push _) _).cps.toList < (hdTx (h1.push _) _).cps.toList) = decide ((rkT (ts.map (·.2.1)) (hdTx (h1.push _) _) : Int) < (rkT (ts.map (·.2.1)) (hdTx (h1.push _) _) : Int))
    rw [(txt t hm).tx, (txt u hm2).tx]
    exact rk_dec (List.mem_map.mpr ⟨t, hm, rfl⟩) (List.mem_map.mpr ⟨u, hm2, rfl⟩)
  · obtain ⟨c, hc'⟩ := sortedHeap_at (vs := ts.map fun t => Value.ref t.1) (out := out) hoL
    obtain ⟨us, pu, eu⟩ := perm_lift (fun t : TtE => Value.ref t.1) p1 ts rfl
    have hv : Vals (us.map fun t => V.ref t.1) out.toList := by
      rw [← eu]; exact vals_txe us
    have hlen : (us.map fun t => V.ref t.1).length ≤ sizeLine := by
      rw [List.length_map, pu.length_eq, sizeLine_eq]
      omega
    refine wpAny_pure ⟨_, rfl, .ref h1.objs.size, upd H h1.objs.size (.lst (us.map fun t => V.ref t.1)), I1.laid (t' := s.toks) (a := h1.objs.size) (fun b u e => ?_) (Nat.le_refl _) ⟨hlen, _, c, hv, hc'⟩, rfl, q us _ pu ?_ (I1.hok.fresh (Nat.le_refl _))⟩
    · have lt := Heap.lt_size e
      show (sortedHeap (h1.push (seqObj "list" (ts.map fun t => Value.ref t.1).toArray 0)) h1.objs.size (ts.map fun t => Value.ref t.1) _).get? b = some u
      rw [sortedHeap_old (Nat.ne_of_lt lt) (by rw [size_push']; exact Nat.lt_succ_of_lt lt)]
      exact Heap.get?_push_of_some _ e
    · rw [← eu, List.pairwise_map] at p2
      rw [List.pairwise_map]
      have ndu : (us.map fun x => x.2.1).Nodup := ((pu.map fun x => x.2.1).nodup_iff).mpr nd
      have nd2 : us.Pairwise (fun x y => x.2.1 ≠ y.2.1) := List.pairwise_map.mp ndu
      refine List.Pairwise.imp_of_mem (fun {x y} hx hy hh => ?_) (p2.and nd2)
      obtain ⟨h3, ne⟩ := hh
      have h3 : (rkT (ts.map (·.2.1)) (hdTx (h1.push (seqObj "list" (ts.map fun t => Value.ref t.1).toArray 0)) (.ref x.1)) : Int) ≤ (rkT (ts.map (·.2.1)) (hdTx (h1.push (seqObj "list" (ts.map fun t => Value.ref t.1).toArray 0)) (.ref y.1)) : Int) := h3
      rw [(txt x (pu.mem_iff.mp hx)).tx, (txt y (pu.mem_iff.mp hy)).tx] at h3
      rcases lex_tri x.2.1.cps.toList y.2.1.cps.toList with c | c | c
      · exact c
      · exact absurd (str_ext c) ne
      · have := rk_lt (l := ts.map (·.2.1)) (List.mem_map.mpr ⟨y, pu.mem_iff.mp hy, rfl⟩) c
        omega
end Zk
set_option Elab.async false
set_option linter.all false
set_option maxRecDepth 100000
set_option maxHeartbeats 2000000
set_option pp.maxSteps 200
/-! t * 1: the tuple itself. -/
namespace Zk
open PySem PySem.Spec PyProof.Rows L2
open PySem.AutoSeq1 (wpAny_loadPart')
theorem tuple_mul1 (l : Addr) (items : Array Value) (n : Nat) (dd : Option Addr) (sl : Array (Option Value)) (u : Tok) :
    Meets (Builtin.«tuple.__mul__» ⟨[.ref l, .int 1 u], []⟩) (fun _ R s => s.heap.get? l = some { cls := .type "tuple", dict := dd, data := .seq items n, slots := sl } ∧ R (.ok (.ret (Value.ref l))) s) :=
  .of_wp fun prog w A R s h => by
    obtain ⟨hp, g, d, tk, os⟩ := s
    obtain ⟨hl, h⟩ := h
    have f1 := AutoSeq1.idx_int
    have c1 : (items.isEmpty || ((1 : Int) == 1)) = true := by simp
    wp_walk using wpAny_loadPart' hl
    repeat (first
      | (refine wpAny_ite_false (decide_eq_false (by decide)) ?_; wp_walk using wpAny_loadPart' hl)
      | (refine wpAny_ite_true (decide_eq_true c1) ?_; wp_walk using wpAny_loadPart' hl))
    exact ⟨_, rfl, h⟩
def rRep1 (K : PySem.W.Frag) : R2 := fun x y H Q => ∃ l xs, x = .ref l ∧ y = .int 1 ∧ SqT K H l xs ∧ Q (.ref l) H
theorem op_rep1 {X : Cx} (K : PySem.W.Frag) (e : X.K = K := by rfl) : OpR X (binaryOp .Mult) (rRep1 K) := by
  rw [← e]
  intro pins s σ H x y v u Q I rx ry h
  obtain ⟨l, xs, rfl, rfl, hT, q⟩ := h
  cases rx
  obtain ⟨t, rfl⟩ := ry
  obtain ⟨its, r, ⟨⟨cls, dd, data, sl⟩, ho, hc, n, hd⟩, hs⟩ := I.tuple hT
  simp only at hc hd
  subst hc hd
  refine wpAny_binaryOp_repeat_ref (T := "tuple") (U := "int") (by decide) ⟨_, ho, rfl⟩ (fun s' => typeIs_int s' 1 t) noFill_tuple_mul F.fills_int_mul F.slot_int_rmul repeat_tuple F.slot_int_index.lookup
    (call_meets F.slot_int_rmul (typeIs_int s 1 t) F.entry_int_rmul (F.args_int_rmul_2 _ _) (int_rmul_tuple 1 t l its.toArray n dd sl)
      ⟨ho, rfl, ⟨_, ho, rfl⟩, call_meets F.slot_tuple_mul ⟨_, ho, rfl⟩ F.entry_tuple_mul (F.args_tuple_mul_2 _ _) (tuple_mul1 l its.toArray n dd sl t) ⟨ho, ?_⟩⟩)
  exact ⟨.ref l, H, I, rfl, q⟩
theorem op_repU {X : Cx} (K : PySem.W.Frag) (e : X.K = K := by rfl) : OpR X (binaryOp .Mult) (fun x y H Q => rRep1 K x y H Q ∨ rRepT K x y H Q) := by
  subst e
  exact (op_rep1 _).or op_repT
end Zk
local macro_rules | `(tactic| walk_at "z0") => `(tactic| first
  | ((with_reducible refine Zk.z_var (v := ?zv) ?zh ?_); (case zh => exact rfl))
  | (with_reducible refine Zk.z_c ?_)
  | (with_reducible refine Zk.z_op ?_)
  | (with_reducible refine Zk.z_un ?_)
  | (with_reducible refine Zk.z_I0 ?_)
  | (with_reducible refine Zk.z_U ?_)
  | (with_reducible refine Zk.z_eqI ?_)
  | (with_reducible refine Zk.z_neI ?_)
  | (with_reducible refine Zk.z_eqB ?_)
  | (with_reducible refine Zk.z_neB ?_)
  | (with_reducible refine Zk.z_isB ?_)
  | (with_reducible refine Zk.z_notB ?_)
  | (with_reducible refine Zk.z_nil ?_)
  | (with_reducible refine Zk.z_cons ?_)
  | (with_reducible refine Zk.z_tup ?_)
  | (with_reducible refine Zk.z_lst ?_)
  | (with_reducible refine Zk.z_call ?_)
  | (with_reducible refine Zk.z_cb ?_)
  | (with_reducible refine Zk.z_orV ?_)
  | (with_reducible refine Zk.z_notV ?_)
  | (with_reducible refine Zk.z_ebl ?_)
  | (with_reducible refine Zk.z_eint ?_)
  | (with_reducible refine Zk.z_test ?_)
  | (with_reducible refine Zk.z_B ?_)
  | (with_reducible refine Zk.z_or ?_)
  | (with_reducible refine Zk.z_not ?_)
  | (with_reducible refine Zk.z_yes ?_)
  | (with_reducible refine Zk.z_seq ?_)
  | (with_reducible refine Zk.z_next ?_)
  | (with_reducible refine Zk.z_asg ?_)
  | (with_reducible refine Zk.z_name ?_)
  | (with_reducible refine Zk.z_ret ?_)
  | (with_reducible refine Zk.z_retN ?_)
  | (with_reducible refine Zk.z_drop ?_)
  | (with_reducible refine Zk.z_if ?_)
  | (with_reducible refine Zk.z_par ?_)
  | (with_reducible refine Zk.z_par2 ?_)
  | (with_reducible refine Zk.z_gSub ?_)
  | (with_reducible refine Zk.z_gCons ?_)
  | (with_reducible refine Zk.z_gNil ?_)
  | ((with_reducible refine Zk.z_pow ?zh ?_); (case zh => exact ⟨by decide, by decide, by decide⟩))
  | ((with_reducible refine Zk.z_modN ?zh ?_); (case zh => first | decide | omega))
  | (with_reducible refine Zk.z_for ?_)
  | (with_reducible refine Zk.z_rng1 ?_)
  | (with_reducible refine Zk.z_iL ?_)
  | (with_reducible refine Zk.z_iT ?_)
  | (with_reducible refine Zk.z_bm ?_)
  | (with_reducible refine Zk.z_bits ?_)
  | (with_reducible refine Zk.z_sl ?_)
  | (with_reducible refine Zk.z_noPart ?_)
  | (with_reducible refine Zk.z_part ?_)
  | (with_reducible refine Zk.z_chain ?_)
  | (with_reducible refine Zk.z_abs ?_)
  | (with_reducible refine Zk.z_intB ?_)
  | (with_reducible refine L2.iteT ?_)
  | (with_reducible refine L2.iteF ?_)
  | ((with_reducible refine Zk.z_itT ?zh ?_); (case zh => exact rfl))
  | ((with_reducible refine Zk.z_itF ?zh ?_); (case zh => exact rfl)))
local macro_rules | `(tactic| walk_at "z") => `(tactic| first
  | (walk_at "z0")
  | (with_reducible refine Zk.z_andV ?_)
  | (with_reducible refine Zk.z_and ?_)
  | (with_reducible refine Zk.z_orT ?_))
local macro_rules | `(tactic| walk_at "zy") => `(tactic| repeat (walk_at "z0"))
local macro_rules | `(tactic| walk_at "zz") => `(tactic| repeat (walk_at "z"))
local macro_rules | `(tactic| walk_at "lk") => `(tactic| first
  | assumption
  | ((refine Zk.same_get (by assumption) ?_); walk_at "lk")
  | ((refine Zk.Dr.tup (by assumption) ?_); walk_at "lk"))
namespace Zl
open PySem PySem.Spec PyProof.Rows L2 Zk
def topS (i : Nat) : Stmt := PySem.Challenge.pw_sumtold_k23_what_are_no_books.main.body.getD i (.Pass ⟨0, 0, 0, 0⟩)
abbrev s_is_whole_number : Stmt := topS 10
theorem sc_is_whole_number : FnScope ["thing"] ["thing"] (defScope s_is_whole_number) := ⟨rfl, rfl, rfl, by decide +kernel, rfl, by decide +kernel, by decide +kernel⟩
abbrev s_is_two_whole_numbers : Stmt := topS 11
theorem sc_is_two_whole_numbers : FnScope ["thing"] ["thing"] (defScope s_is_two_whole_numbers) := ⟨rfl, rfl, rfl, by decide +kernel, rfl, by decide +kernel, by decide +kernel⟩
abbrev s_is_part : Stmt := topS 12
theorem sc_is_part : FnScope ["thing", "num", "e"] ["thing"] (defScope s_is_part) := ⟨rfl, rfl, rfl, by decide +kernel, rfl, by decide +kernel, by decide +kernel⟩
abbrev s_is_name : Stmt := topS 18
theorem sc_is_name : FnScope ["thing", "sign"] ["thing"] (defScope s_is_name) := ⟨rfl, rfl, rfl, by decide +kernel, rfl, by decide +kernel, by decide +kernel⟩
abbrev s_is_own_number : Stmt := topS 19
theorem sc_is_own_number : FnScope ["thing"] ["thing"] (defScope s_is_own_number) := ⟨rfl, rfl, rfl, by decide +kernel, rfl, by decide +kernel, by decide +kernel⟩
abbrev s_is_numbers : Stmt := topS 20
theorem sc_is_numbers : FnScope ["thing", "number"] ["thing"] (defScope s_is_numbers) := ⟨rfl, rfl, rfl, by decide +kernel, rfl, by decide +kernel, by decide +kernel⟩
abbrev s_is_tuple_of : Stmt := topS 22
theorem sc_is_tuple_of : FnScope ["thing", "many"] ["thing", "many"] (defScope s_is_tuple_of) := ⟨rfl, rfl, rfl, by decide +kernel, rfl, by decide +kernel, by decide +kernel⟩
abbrev s_is_count : Stmt := topS 23
theorem sc_is_count : FnScope ["thing", "least"] ["thing", "least"] (defScope s_is_count) := ⟨rfl, rfl, rfl, by decide +kernel, rfl, by decide +kernel, by decide +kernel⟩
abbrev s_is_stamp : Stmt := topS 24
theorem sc_is_stamp : FnScope ["thing"] ["thing"] (defScope s_is_stamp) := ⟨rfl, rfl, rfl, by decide +kernel, rfl, by decide +kernel, by decide +kernel⟩
abbrev s_is_row : Stmt := topS 25
theorem sc_is_row : FnScope ["thing", "parts", "one"] ["thing", "parts"] (defScope s_is_row) := ⟨rfl, rfl, rfl, by decide +kernel, rfl, by decide +kernel, by decide +kernel⟩
abbrev s_are_rising : Stmt := topS 26
theorem sc_are_rising : FnScope ["names", "one", "other"] ["names"] (defScope s_are_rising) := ⟨rfl, rfl, rfl, by decide +kernel, rfl, by decide +kernel, by decide +kernel⟩
abbrev s_are_others : Stmt := topS 27
theorem sc_are_others : FnScope ["thing", "own", "name"] ["thing", "own"] (defScope s_are_others) := ⟨rfl, rfl, rfl, by decide +kernel, rfl, by decide +kernel, by decide +kernel⟩
abbrev s_is_entry : Stmt := topS 28
theorem sc_is_entry : FnScope ["thing", "many", "name", "life", "version", "numbers", "names"] ["thing", "many"] (defScope s_is_entry) := ⟨rfl, rfl, rfl, by decide +kernel, rfl, by decide +kernel, by decide +kernel⟩
abbrev s_is_roll : Stmt := topS 29
theorem sc_is_roll : FnScope ["thing", "many", "entry"] ["thing", "many"] (defScope s_is_roll) := ⟨rfl, rfl, rfl, by decide +kernel, rfl, by decide +kernel, by decide +kernel⟩
abbrev s_is_era : Stmt := topS 30
theorem sc_is_era : FnScope ["thing"] ["thing"] (defScope s_is_era) := ⟨rfl, rfl, rfl, by decide +kernel, rfl, by decide +kernel, by decide +kernel⟩
abbrev s_is_account : Stmt := topS 31
theorem sc_is_account : FnScope ["thing", "parts", "name", "seen", "gifts", "given", "takes", "taken"] ["thing", "parts"] (defScope s_is_account) := ⟨rfl, rfl, rfl, by decide +kernel, rfl, by decide +kernel, by decide +kernel⟩
abbrev s_are_accounts : Stmt := topS 32
theorem sc_are_accounts : FnScope ["thing", "parts", "account"] ["thing", "parts"] (defScope s_are_accounts) := ⟨rfl, rfl, rfl, by decide +kernel, rfl, by decide +kernel, by decide +kernel⟩
abbrev s_are_eras : Stmt := topS 33
theorem sc_are_eras : FnScope ["thing", "era"] ["thing"] (defScope s_are_eras) := ⟨rfl, rfl, rfl, by decide +kernel, rfl, by decide +kernel, by decide +kernel⟩
abbrev s_is_books : Stmt := topS 34
theorem sc_is_books : FnScope ["thing", "name", "life", "version", "numbers", "eras", "accounts", "roll", "many", "known", "tied", "own", "era", "account", "other"] ["thing"] (defScope s_is_books) := ⟨rfl, rfl, rfl, by decide +kernel, rfl, by decide +kernel, by decide +kernel⟩
abbrev s_account_at_first : Stmt := topS 36
theorem sc_account_at_first : FnScope ["seen", "many"] ["seen", "many"] (defScope s_account_at_first) := ⟨rfl, rfl, rfl, by decide +kernel, rfl, by decide +kernel, by decide +kernel⟩
abbrev s_hand_of : Stmt := topS 38
theorem sc_hand_of : FnScope ["books", "name", "life", "version", "numbers", "eras", "accounts", "roll", "hand", "other", "era", "account"] ["books"] (defScope s_hand_of) := ⟨rfl, rfl, rfl, by decide +kernel, rfl, by decide +kernel, by decide +kernel⟩
abbrev s__law_cell_at : Stmt := topS 40
theorem sc__law_cell_at : FnScope ["_law_script", "_law_k"] ["_law_script", "_law_k"] (defScope s__law_cell_at) := ⟨rfl, rfl, rfl, by decide +kernel, rfl, by decide +kernel, by decide +kernel⟩
abbrev s__law_mixed : Stmt := topS 41
theorem sc__law_mixed : FnScope ["_law_cell", "_law_k", "_law_number_here"] ["_law_cell", "_law_k"] (defScope s__law_mixed) := ⟨rfl, rfl, rfl, by decide +kernel, rfl, by decide +kernel, by decide +kernel⟩
abbrev s__law_draw : Stmt := topS 42
theorem sc__law_draw : FnScope ["_law_draw_here", "_law_many"] ["_law_draw_here", "_law_many"] (defScope s__law_draw) := ⟨rfl, rfl, rfl, by decide +kernel, rfl, by decide +kernel, by decide +kernel⟩
abbrev s__law_one : Stmt := topS 43
theorem sc__law_one : FnScope ["_law_draw_here", "_law_some"] ["_law_draw_here", "_law_some"] (defScope s__law_one) := ⟨rfl, rfl, rfl, by decide +kernel, rfl, by decide +kernel, by decide +kernel⟩
abbrev s__law_name : Stmt := topS 44
theorem sc__law_name : FnScope ["_law_draw_here", "_law_letters", "_law_name_here", "_law_k"] ["_law_draw_here"] (defScope s__law_name) := ⟨rfl, rfl, rfl, by decide +kernel, rfl, by decide +kernel, by decide +kernel⟩
abbrev s__law_names : Stmt := topS 45
theorem sc__law_names : FnScope ["_law_draw_here", "_law_many", "_law_found", "_law_k", "_law_name_here", "_law_letter"] ["_law_draw_here", "_law_many"] (defScope s__law_names) := ⟨rfl, rfl, rfl, by decide +kernel, rfl, by decide +kernel, by decide +kernel⟩
abbrev s__law_number : Stmt := topS 46
theorem sc__law_number : FnScope ["_law_draw_here", "_law_way", "_law_top"] ["_law_draw_here"] (defScope s__law_number) := ⟨rfl, rfl, rfl, by decide +kernel, rfl, by decide +kernel, by decide +kernel⟩
abbrev s__law_part : Stmt := topS 47
theorem sc__law_part : FnScope ["_law_num", "_law_e"] ["_law_num", "_law_e"] (defScope s__law_part) := ⟨rfl, rfl, rfl, by decide +kernel, rfl, by decide +kernel, by decide +kernel⟩
abbrev s__law_row : Stmt := topS 48
theorem sc__law_row : FnScope ["_law_draw_here", "_law_many", "_law_k"] ["_law_draw_here", "_law_many"] (defScope s__law_row) := ⟨rfl, rfl, rfl, by decide +kernel, rfl, by decide +kernel, by decide +kernel⟩
abbrev s__law_books : Stmt := topS 49
theorem sc__law_books : FnScope ["_law_draw_here", "_law_names_here", "_law_name_here", "_law_many", "_law_numbers", "_law_eras", "_law_some", "_law_one_here", "_law_era", "_law_seen", "_law_counts", "_law_life", "_law_version", "_law_roll", "_law_others", "_law_k", "_law_other"] ["_law_draw_here"] (defScope s__law_books) := ⟨rfl, rfl, rfl, by decide +kernel, rfl, by decide +kernel, by decide +kernel⟩
abbrev s__law_put : Stmt := topS 50
theorem sc__law_put : FnScope ["_law_row_here", "_law_k", "_law_one_here"] ["_law_row_here", "_law_k", "_law_one_here"] (defScope s__law_put) := ⟨rfl, rfl, rfl, by decide +kernel, rfl, by decide +kernel, by decide +kernel⟩
abbrev s__law_odd_name : Stmt := topS 51
theorem sc__law_odd_name : FnScope ["_law_draw_here", "_law_name_here", "_law_at", "_law_spoilt_here"] ["_law_draw_here"] (defScope s__law_odd_name) := ⟨rfl, rfl, rfl, by decide +kernel, rfl, by decide +kernel, by decide +kernel⟩
abbrev s__law_turned : Stmt := topS 52
theorem sc__law_turned : FnScope ["_law_draw_here", "_law_row_here", "_law_k", "_law_way"] ["_law_draw_here", "_law_row_here"] (defScope s__law_turned) := ⟨rfl, rfl, rfl, by decide +kernel, rfl, by decide +kernel, by decide +kernel⟩
abbrev s__law_account_odd : Stmt := topS 53
theorem sc__law_account_odd : FnScope ["_law_draw_here", "_law_one_here", "_law_k", "_law_odd", "_law_row_here", "_law_j", "_law_num", "_law_e"] ["_law_draw_here", "_law_one_here"] (defScope s__law_account_odd) := ⟨rfl, rfl, rfl, by decide +kernel, rfl, by decide +kernel, by decide +kernel⟩
abbrev s__law_entry_odd : Stmt := topS 54
theorem sc__law_entry_odd : FnScope ["_law_draw_here", "_law_one_here", "_law_k", "_law_odd", "_law_names_here"] ["_law_draw_here", "_law_one_here"] (defScope s__law_entry_odd) := ⟨rfl, rfl, rfl, by decide +kernel, rfl, by decide +kernel, by decide +kernel⟩
abbrev s__law_spoilt : Stmt := topS 55
theorem sc__law_spoilt : FnScope ["_law_draw_here", "_law_books_here", "_law_k", "_law_name_here", "_law_life", "_law_version", "_law_numbers", "_law_eras", "_law_some", "_law_roll", "_law_odd", "_law_bad", "_law_j", "_law_lack", "_law_turned_here", "_law_elder", "_law_one_here"] ["_law_draw_here", "_law_books_here"] (defScope s__law_spoilt) := ⟨rfl, rfl, rfl, by decide +kernel, rfl, by decide +kernel, by decide +kernel⟩
abbrev s__law_refused : Stmt := topS 56
theorem sc__law_refused : FnScope ["_law_thing", "_law_told", "_law_e"] ["_law_thing"] (defScope s__law_refused) := ⟨rfl, rfl, rfl, by decide +kernel, rfl, by decide +kernel, by decide +kernel⟩
abbrev s_law : Stmt := topS 57
theorem sc_law : FnScope ["_law_script", "_law_cell", "_law_draw_here", "_law_books_here", "_law_turn"] ["_law_script"] (defScope s_law) := ⟨rfl, rfl, rfl, by decide +kernel, rfl, by decide +kernel, by decide +kernel⟩
abbrev s_Hand_others : Stmt := inClass (topS 37) 2
theorem sc_Hand_others : FnScope ["self"] ["self"] (defScope s_Hand_others) := ⟨rfl, rfl, rfl, by decide +kernel, rfl, by decide +kernel, by decide +kernel⟩
abbrev s_Hand_own_entry : Stmt := inClass (topS 37) 9
theorem sc_Hand_own_entry : FnScope ["self"] ["self"] (defScope s_Hand_own_entry) := ⟨rfl, rfl, rfl, by decide +kernel, rfl, by decide +kernel, by decide +kernel⟩
abbrev s_Hand___init__ : Stmt := inClass (topS 37) 0
theorem sc_Hand___init__ : FnScope ["self", "name", "numbers", "others", "other"] ["self", "name", "numbers", "others"] (defScope s_Hand___init__) := ⟨rfl, rfl, rfl, by decide +kernel, rfl, by decide +kernel, by decide +kernel⟩
abbrev s_Hand_books : Stmt := inClass (topS 37) 19
theorem sc_Hand_books : FnScope ["self", "eras", "accounts", "other"] ["self"] (defScope s_Hand_books) := ⟨rfl, rfl, rfl, by decide +kernel, rfl, by decide +kernel, by decide +kernel⟩
section
variable {P : Program} {w : World} {K : PySem.W.Frag} {mg : Str → Option Value} {base : Heap}
def spWhole (K : PySem.W.Frag) : Sp := fun vs H Q _ => ∃ (x : V) (n : String) (a b : Bool), vs = [x] ∧ TyX K H x (.type n) ∧ kitB n "int" = some a ∧ kitB n "bool" = some b ∧ Q (.bl (a && !b)) H
theorem ok_is_whole_number {f : Addr} {fd : FuncData} (F : FnP K "is_whole_number" s_is_whole_number f fd) (m_isinstance : mg "isinstance" = none) (m_int : mg "int" = none) (m_bool : mg "bool" = none) : FnOk P w K mg base CX0 1 f fd ["thing"] (spWhole K) := by
  refine F.ok sc_is_whole_number (fun vs H Q E h => ?_) (fun cdv A outer s H vs Q E hr h => ?_)
  · obtain ⟨x, n, a, b, rfl, _⟩ := h; rfl
  obtain ⟨x, n, a, b, rfl, ty, ha, hb, q⟩ := h
  refine ⟨_, PSs.nox (pss_one (ps_ret (pe_and (pe_callB (call_isiE K) (by rfl) m_isinstance (by decide +kernel) (pa_cons (pv 0) (pa_cons (pe_bltn (v := .ty "int") (by rfl) m_int (by decide +kernel) rfl) pa_nil))) (pe_one (pe_not (pe_callB (call_isiE K) (by rfl) m_isinstance (by decide +kernel) (pa_cons (pv 0) (pa_cons (pe_bltn (v := .ty "bool") (by rfl) m_bool (by decide +kernel) rfl) pa_nil)))))))), ?_⟩
  walk_at "zz"
  refine z_isi ty ha ?_
  walk_at "zz"
  cases a with
  | true =>
    walk_at "zz"
    refine z_isi ty hb ?_
    walk_at "zz"
    exact q
  | false =>
    walk_at "zz"
    exact q
def WholeV (K : PySem.W.Frag) (H : Hp) (x : V) (k : Bool) : Prop := ∃ (n : String) (a b : Bool), TyX K H x (.type n) ∧ kitB n "int" = some a ∧ kitB n "bool" = some b ∧ k = (a && !b)
theorem wholeI {K : PySem.W.Frag} {H : Hp} (x : Int) : WholeV K H (.int x) true := ⟨"int", true, false, .base (.int x), by decide +kernel, by decide +kernel, rfl⟩
def spTwo (K : PySem.W.Frag) : Sp := fun vs H Q _ => ∃ x, vs = [x] ∧ ((∃ n, TyX K H x (.type n) ∧ kitB n "tuple" = some false ∧ Q (.bl false) H) ∨ ∃ p xs, x = .ref p ∧ H p = some (.tup xs) ∧ ((xs.length ≠ 2 ∧ Q (.bl false) H) ∨ ∃ v1 v2 k1 k2, xs = [v1, v2] ∧ WholeV K H v1 k1 ∧ WholeV K H v2 k2 ∧ Q (.bl (k1 && k2)) H))
theorem ok_is_two_whole_numbers {f : Addr} {fd : FuncData} (F : FnP K "is_two_whole_numbers" s_is_two_whole_numbers f fd) (m_isinstance : mg "isinstance" = none) (m_tuple : mg "tuple" = none) (m_len : mg "len" = none) (h_is_whole_number : Has P w K mg base 1 "is_whole_number" ["thing"] (spWhole K)) : FnOk P w K mg base CX0 2 f fd ["thing"] (spTwo K) := by
  refine F.ok sc_is_two_whole_numbers (fun vs H Q E h => ?_) (fun cdv A outer s H vs Q E hr h => ?_)
  · obtain ⟨x, rfl, _⟩ := h; rfl
  obtain ⟨x, rfl, h⟩ := h
  refine ⟨_, PSs.nox (pss_cons (ps_if (PW.pt (pw_or (pt_not (pt_val (pe_callB (call_isiE K) (by rfl) m_isinstance (by decide +kernel) (pa_cons (pv 0) (pa_cons (pe_bltn (v := .ty "tuple") (by rfl) m_tuple (by decide +kernel) rfl) pa_nil))))) (pw_or1 (pt_cmpR op_ne (pe_callB (call_lenE K) (by rfl) m_len (by decide +kernel) (pa_cons (pv 0) pa_nil)) pe_int (nomark _)))))
    (pss_one (ps_ret pe_bl))
    pss_nil)
  (pss_one (ps_ret (pe_and (pe_callH h_is_whole_number (hr.mono (by decide)) (by rfl) (pa_cons (pe_ix (ix_tupE K) (pv 0) pe_int (fun _ _ => rfl)) pa_nil)) (pe_one (pe_callH h_is_whole_number (hr.mono (by decide)) (by rfl) (pa_cons (pe_ix (ix_tupE K) (pv 0) pe_int (fun _ _ => rfl)) pa_nil))))))), ?_⟩
  walk_at "zz"
  rcases h with ⟨n, ty, hk, q⟩ | ⟨p, xs, rfl, hp, h⟩
  · refine z_isi ty hk ?_
    walk_at "zz"
    exact q
  · refine z_isi (n := "tuple") (k := true) (.base (.tup hp)) (by decide +kernel) ?_
    walk_at "zz"
    refine z_lenT hp ?_
    walk_at "zz"
    rcases h with ⟨hl, q⟩ | ⟨v1, v2, k1, k2, rfl, ⟨n1, a1, b1, t1, c1, e1, rfl⟩, ⟨n2, a2, b2, t2, c2, e2, rfl⟩, q⟩
    · refine z_nite (fun _ => ?_) (fun h => absurd h (by omega))
      walk_at "zz"
      exact q
    · refine z_nite (fun h => absurd rfl h) (fun _ => ?_)
      walk_at "zz"
      refine z_ixT (SqT.of hp) (v := v1) rfl ?_
      walk_at "zz"
      refine ⟨v1, n1, a1, b1, rfl, t1, c1, e1, ?_⟩
      walk_at "zz"
      cases hb : (a1 && !b1) with
      | true =>
        rw [hb] at q
        walk_at "zz"
        refine z_ixT (SqT.of hp) (v := v2) rfl ?_
        walk_at "zz"
        exact ⟨v2, n2, a2, b2, rfl, t2, c2, e2, q⟩
      | false =>
        rw [hb] at q
        walk_at "zz"
        exact q
def ptB (x y : Int) : Bool := decide (y = 0) || (decide (0 < y) && decide (x % 2 = 1))
/-- what is_part is asked of -/
def PartQ (K : PySem.W.Frag) (H : Hp) (x : V) (k : Bool) : Prop := (k = false ∧ ∃ n, TyX K H x (.type n) ∧ kitB n "tuple" = some false) ∨ ∃ p xs, x = .ref p ∧ H p = some (.tup xs) ∧ ((k = false ∧ xs.length ≠ 2) ∨ (∃ a b, xs = [.int a, .int b] ∧ k = ptB a b) ∨ (k = false ∧ ∃ v1 v2 k1 k2, xs = [v1, v2] ∧ WholeV K H v1 k1 ∧ WholeV K H v2 k2 ∧ (k1 && k2) = false))
def spIsPart (K : PySem.W.Frag) : Sp := fun vs H Q _ => ∃ x k, vs = [x] ∧ PartQ K H x k ∧ Q (.bl k) H
theorem ok_is_part {f : Addr} {fd : FuncData} (F : FnP K "is_part" s_is_part f fd) (h_is_two_whole_numbers : Has P w K mg base 2 "is_two_whole_numbers" ["thing"] (spTwo K)) : FnOk P w K mg base CX0 3 f fd ["thing"] (spIsPart K) := by
  refine F.ok sc_is_part (fun vs H Q E h => ?_) (fun cdv A outer s H vs Q E hr h => ?_)
  · obtain ⟨x, k, rfl, _⟩ := h; rfl
  obtain ⟨x, k, rfl, h, q⟩ := h
  refine ⟨_, PSs.nox (pss_cons (ps_if (pt_not (pt_val (pe_callH h_is_two_whole_numbers (hr.mono (by decide)) (by rfl) (pa_cons (pv 0) pa_nil))))
    (pss_one (ps_ret pe_bl))
    pss_nil)
  (pss_cons (ps_asg (pv 0) (pg_tup rfl (pgs_cons (pg_name (i := 1) sc_is_part.nd rfl (.inl rfl)) (pgs_cons (pg_name (i := 2) sc_is_part.nd rfl (.inl rfl)) pgs_nil))))
  (pss_one (ps_ret (pe_or (pe_cmpR op_eq (pv 2) pe_int (nomark _)) (pe_one (pe_and (pe_cmpR op_gt (pv 2) pe_int (nomark _)) (pe_one (pe_cmpR op_eq (pe_op op_and (pv 1) pe_int) pe_int (nomark _)))))))))), ?_⟩
  walk_at "zz"
  rcases h with ⟨rfl, n, ty, hk⟩ | ⟨p, xs, rfl, hp, ⟨rfl, hl⟩ | ⟨a, b, rfl, rfl⟩ | ⟨rfl, v1, v2, k1, k2, rfl, t1, t2, hk⟩⟩
  · refine ⟨x, rfl, .inl ⟨n, ty, hk, ?_⟩⟩
    walk_at "zz"
    exact q
  · refine ⟨.ref p, rfl, .inr ⟨p, xs, rfl, hp, .inl ⟨hl, ?_⟩⟩⟩
    walk_at "zz"
    exact q
  · refine ⟨.ref p, rfl, .inr ⟨p, _, rfl, hp, .inr ⟨_, _, true, true, rfl, wholeI a, wholeI b, ?_⟩⟩⟩
    walk_at "zz"
    refine z_gTup (SqT.of hp) rfl ?_
    walk_at "zz"
    unfold ptB at q
    by_cases h0 : b = 0
    · rw [decide_eq_true h0] at q ⊢
      walk_at "zz"
      exact q
    · rw [decide_eq_false h0] at q ⊢
      walk_at "zz"
      by_cases h1 : 0 < b
      · rw [decide_eq_true h1] at q ⊢
        walk_at "zz"
        rw [bitAnd_m1]
        exact q
      · rw [decide_eq_false h1] at q ⊢
        walk_at "zz"
        exact q
  · refine ⟨.ref p, rfl, .inr ⟨p, _, rfl, hp, .inr ⟨v1, v2, k1, k2, rfl, t1, t2, ?_⟩⟩⟩
    walk_at "zz"
    rw [hk]
    walk_at "zz"
    exact q
def spIsName (K : PySem.W.Frag) (Pt : Addr) : Sp := fun vs H Q _ => ∃ x, vs = [x] ∧ ((∃ n, TyX K H x (.type n) ∧ kitB n "str" = some false ∧ Q (.bl false) H) ∨ ∃ z : Str, x = .str z ∧ z.length ≤ 1000 ∧ GxR.TabG H Pt ∧ ∀ H2, GxR.Tabbed Pt H H2 → Q (.bl (nmB z)) H2)
theorem ok_is_name {f ca Pt : Addr} {fd : FuncData} {t1 : Tok} (F : FnP K "is_name" s_is_name f fd) (hcd : fd.code = .ref ca) (TB : GxR.TabB base mg ca Pt) (m_isinstance : mg "isinstance" = none) (m_str : mg "str" = none) (m_len : mg "len" = none) (m_all : mg "all" = none) (c_LONGEST_NAME : mg "LONGEST_NAME" = some (.int 8 t1)) : FnOk P w K mg base CX0 5 f fd ["thing"] (spIsName K Pt) := by
  refine okC F sc_is_name (fun vs H Q E h => ?_) (fun A outer s H vs Q E hr h => ?_)
  · obtain ⟨x, rfl, _⟩ := h; rfl
  obtain ⟨x, rfl, h⟩ := h
  refine ⟨_, PSs.nox (pss_cons (ps_if (PW.pt (pw_or (pt_not (pt_val (pe_callB (call_isiE K) (by rfl) m_isinstance (by decide +kernel) (pa_cons (pv 0) (pa_cons (pe_bltn (v := .ty "str") (by rfl) m_str (by decide +kernel) rfl) pa_nil))))) (pw_or1 (pt_not (pt_chain op_le op_le pe_int (pe_callB (call_lenE K) (by rfl) m_len (by decide +kernel) (pa_cons (pv 0) pa_nil)) (pe_glob (v := .int 8) (by rfl) c_LONGEST_NAME ⟨_, rfl⟩))))))
    (pss_one (ps_ret pe_bl))
    pss_nil)
  (pss_one (ps_ret (pe_all (k := 0) (own := [("sign", 1)]) (g := gName 1) (hr.mono (by decide)) (by rfl) m_all TB hcd (by rfl) sc_is_name.nd (pi_str (pv 0)) (blkOk_by (own := [("sign", 1)]) (N := ["thing", "sign"]) (sc := defScope s_is_name) (by decide +kernel)) ⟨rfl, by decide +kernel, rfl⟩ (fun _ _ _ _ _ _ _ hr => (pg_name (i := 1) sc_is_name.nd rfl (.inl rfl))) (fun _ _ _ _ _ _ _ hr => pts_nil) (fun _ _ _ _ _ _ _ hr => (pe_chain op_leS op_leS pe_str (pv 1) pe_str)) (fun _ => rfl))))), ?_⟩
  walk_at "zz"
  rcases h with ⟨n, ty, hk, q⟩ | ⟨z, rfl, hz, hT, q⟩
  · refine z_isi ty hk ?_
    walk_at "zz"
    exact q
  · refine z_isi (n := "str") (k := true) (.base (.str z)) (by decide +kernel) ?_
    walk_at "zz"
    refine z_lenS hz ?_
    walk_at "zz"
    have q0 := q H ⟨hT, fun _ _ => rfl⟩
    unfold nmB at q q0
    by_cases h1 : 1 ≤ z.length
    · rw [decide_eq_true h1] at q q0
      rw [decide_eq_true (show (1 : Int) ≤ (z.length : Int) by omega)]
      walk_at "zz"
      by_cases h2 : z.length ≤ 8
      · rw [decide_eq_true h2] at q q0
        rw [decide_eq_true (show (z.length : Int) ≤ 8 by omega)]
        walk_at "zz"
        refine ⟨_, rfl, z, rfl, hT, fun H2 hT2 => ?_⟩
        have q2 := q H2 hT2
        simp only [Bool.true_and] at q2
        have ez : ∀ i c, z.cps[i]? = some c → z.cps.toList[i]? = some c := fun i c h => by rw [Array.getElem?_toList]; exact h
        refine all_pure (J := Its z) z.cps.size (fun i => match z.cps[i]? with | some c => smB c | none => false) (fun i hi => hi) (Nat.le_refl _) (fun i x H' hi hy Q' B hq => ?_) (fun ha => ?_) (fun i hi hf => ?_)
        · obtain ⟨rfl, c, hc, rfl⟩ := hy
          simp only [hc] at hq
          refine ⟨rfl, ?_⟩
          walk_at "zz"
          refine z_leS (c := 97) (d := c) ?_
          walk_at "zz"
          unfold smB at hq
          by_cases hc1 : 97 ≤ c
          · rw [decide_eq_true hc1] at hq ⊢
            walk_at "zz"
            exact z_leS (c := c) (d := 122) hq
          · rw [decide_eq_false hc1] at hq ⊢
            walk_at "zz"
            exact hq
        · refine bool_bl (Eq.symm ?_) q2
          rw [List.all_eq_true]
          intro c hc
          obtain ⟨j, hj, e⟩ := List.getElem_of_mem hc
          have hj' : j < z.cps.size := by simpa using hj
          have := ha j hj'
          have e2 : z.cps[j]? = some c := by rw [← Array.getElem?_toList, List.getElem?_eq_getElem hj, e]
          simpa [e2] using this
        · refine bool_bl (Eq.symm ?_) q2
          rw [Bool.eq_false_iff]
          intro ht
          rw [List.all_eq_true] at ht
          have e2 : z.cps[i]? = some z.cps[i] := Array.getElem?_eq_getElem hi
          simp only [e2] at hf
          rw [ht _ (by simp)] at hf
          cases hf
      · rw [decide_eq_false h2] at q0
        rw [decide_eq_false (show ¬ (z.length : Int) ≤ 8 by omega)]
        walk_at "zz"
        exact q0
    · rw [decide_eq_false h1] at q0
      rw [decide_eq_false (show ¬ (1 : Int) ≤ (z.length : Int) by omega)]
      walk_at "zz"
      exact q0
def spOwn : Sp := fun vs H Q _ => ∃ x k, vs = [x] ∧ OwnV H x k ∧ Q (.bl k) H
theorem ok_is_own_number {f : Addr} {fd : FuncData} {t1 : Tok} (F : FnP K "is_own_number" s_is_own_number f fd) (c_GREATEST_NUMBER : mg "GREATEST_NUMBER" = some (.int 1000000000000 t1)) (h_is_whole_number : Has P w K mg base 1 "is_whole_number" ["thing"] (spWhole K)) : FnOk P w K mg base CX0 2 f fd ["thing"] spOwn := by
  refine F.ok sc_is_own_number (fun vs H Q E h => ?_) (fun cdv A outer s H vs Q E hr h => ?_)
  · obtain ⟨x, k, rfl, _⟩ := h; rfl
  obtain ⟨x, k, rfl, h, q⟩ := h
  refine ⟨_, PSs.nox (pss_one (ps_ret (pe_and (pe_callH h_is_whole_number (hr.mono (by decide)) (by rfl) (pa_cons (pv 0) pa_nil)) (pe_one (pe_chain op_le op_le (pe_un un_neg (pe_glob (v := .int 1000000000000) (by rfl) c_GREATEST_NUMBER ⟨_, rfl⟩)) (pv 0) (pe_glob (v := .int 1000000000000) (by rfl) c_GREATEST_NUMBER ⟨_, rfl⟩)))))), ?_⟩
  walk_at "zz"
  rcases h with ⟨n, rfl, rfl⟩ | ⟨rfl, h⟩
  · refine ⟨_, "int", true, false, rfl, .base (.int n), by decide +kernel, by decide +kernel, ?_⟩
    walk_at "zz"
    unfold inFar at q
    by_cases h1 : -1000000000000 ≤ n
    · rw [decide_eq_true h1] at q ⊢
      walk_at "zz"
      exact q
    · rw [decide_eq_false h1] at q ⊢
      walk_at "zz"
      exact q
  · obtain ⟨n, a, b, ty, ha, hb, e⟩ := h.ty (K := K)
    refine ⟨_, n, a, b, rfl, ty, ha, hb, ?_⟩
    rw [e]
    walk_at "zz"
    exact q
def nuB (ks : List Bool) : Bool := decide (1 ≤ ks.length) && (decide (ks.length ≤ 3) && ks.all id)
def OwnAll (H : Hp) (xs : List V) (ks : List Bool) : Prop := ks.length = xs.length ∧ ∀ (i : Nat) (x : V) (k : Bool), xs[i]? = some x → ks[i]? = some k → OwnV H x k
def spNums (K : PySem.W.Frag) (Pt : Addr) : Sp := fun vs H Q _ => ∃ x, vs = [x] ∧ ((∃ n, TyX K H x (.type n) ∧ kitB n "tuple" = some false ∧ Q (.bl false) H) ∨ ∃ p xs ks, x = .ref p ∧ H p = some (.tup xs) ∧ OwnAll H xs ks ∧ GxR.TabG H Pt ∧ ∀ H2, GxR.Tabbed Pt H H2 → Q (.bl (nuB ks)) H2)
theorem ok_is_numbers {f ca Pt : Addr} {fd : FuncData} {t1 : Tok} (F : FnP K "is_numbers" s_is_numbers f fd) (hcd : fd.code = .ref ca) (TB : GxR.TabB base mg ca Pt) (m_isinstance : mg "isinstance" = none) (m_tuple : mg "tuple" = none) (m_len : mg "len" = none) (m_all : mg "all" = none) (c_MOST_NUMBERS : mg "MOST_NUMBERS" = some (.int 3 t1)) (h_is_own_number : Has P w K mg base 2 "is_own_number" ["thing"] spOwn) : FnOk P w K mg base CX0 7 f fd ["thing"] (spNums K Pt) := by
  refine okC F sc_is_numbers (fun vs H Q E h => ?_) (fun A outer s H vs Q E hr h => ?_)
  · obtain ⟨x, rfl, _⟩ := h; rfl
  obtain ⟨x, rfl, h⟩ := h
  refine ⟨_, PSs.nox (pss_cons (ps_if (PW.pt (pw_or (pt_not (pt_val (pe_callB (call_isiE K) (by rfl) m_isinstance (by decide +kernel) (pa_cons (pv 0) (pa_cons (pe_bltn (v := .ty "tuple") (by rfl) m_tuple (by decide +kernel) rfl) pa_nil))))) (pw_or1 (pt_not (pt_chain op_le op_le pe_int (pe_callB (call_lenE K) (by rfl) m_len (by decide +kernel) (pa_cons (pv 0) pa_nil)) (pe_glob (v := .int 3) (by rfl) c_MOST_NUMBERS ⟨_, rfl⟩))))))
    (pss_one (ps_ret pe_bl))
    pss_nil)
  (pss_one (ps_ret (pe_all (k := 2) (own := [("number", 1)]) (g := gName 1) (hr.mono (by decide)) (by rfl) m_all TB hcd (by rfl) sc_is_numbers.nd (pi_tupE K (pv 0)) (blkOk_by (own := [("number", 1)]) (N := ["thing", "number"]) (sc := defScope s_is_numbers) (by decide +kernel)) ⟨rfl, by decide +kernel, rfl⟩ (fun _ _ _ _ _ _ _ hr => (pg_name (i := 1) sc_is_numbers.nd rfl (.inl rfl))) (fun _ _ _ _ _ _ _ hr => pts_nil) (fun _ _ _ _ _ _ _ hr => (pe_callH h_is_own_number (hr.mono (by decide)) (by rfl) (pa_cons (pv 1) pa_nil))) (fun _ => rfl))))), ?_⟩
  walk_at "zz"
  rcases h with ⟨n, ty, hk, q⟩ | ⟨p, xs, ks, rfl, hp, ⟨hl, hks⟩, hT, q⟩
  · refine z_isi ty hk ?_
    walk_at "zz"
    exact q
  · refine z_isi (n := "tuple") (k := true) (.base (.tup hp)) (by decide +kernel) ?_
    walk_at "zz"
    refine z_lenT hp ?_
    walk_at "zz"
    have q0 := q H ⟨hT, fun _ _ => rfl⟩
    unfold nuB at q q0
    rw [hl] at q q0
    by_cases h1 : 1 ≤ xs.length
    · rw [decide_eq_true h1] at q q0
      rw [decide_eq_true (show (1 : Int) ≤ (xs.length : Int) by omega)]
      walk_at "zz"
      by_cases h2 : xs.length ≤ 3
      · rw [decide_eq_true h2] at q q0
        rw [decide_eq_true (show (xs.length : Int) ≤ 3 by omega)]
        walk_at "zz"
        refine ⟨_, rfl, p, rfl, ⟨_, SqT.of hp⟩, hT, fun H2 hT2 => ?_⟩
        have q2 := q H2 hT2
        simp only [Bool.true_and] at q2
        have hp2 := tab_get hT2 hp (fun _ z => by cases z) hT
        refine all_pure (J := Itt K p) xs.length (fun i => match ks[i]? with | some k => k | none => false) (fun i hi => ⟨xs, xs[i], SqT.of hp2, List.getElem?_eq_getElem hi⟩) ⟨xs, SqT.of hp2, Nat.le_refl _⟩ (fun i x H' hi hy Q' B hq => ?_) (fun ha => ?_) (fun i hi hf => ?_)
        · obtain ⟨rfl, hx⟩ := hy
          have ex : xs[i]? = some x := hx xs (SqT.of hp2)
          have hi' : i < ks.length := by omega
          have ek : ks[i]? = some ks[i] := List.getElem?_eq_getElem hi'
          simp only [ek] at hq
          refine ⟨rfl, ?_⟩
          walk_at "zz"
          exact ⟨x, ks[i], rfl, (hks i x ks[i] ex ek).tab hT2 hT, hq⟩
        · refine bool_bl (Eq.symm ?_) q2
          rw [List.all_eq_true]
          intro k hk
          obtain ⟨j, hj, e⟩ := List.getElem_of_mem hk
          have := ha j (by omega)
          have e2 : ks[j]? = some k := by rw [List.getElem?_eq_getElem hj, e]
          simpa [e2] using this
        · refine bool_bl (Eq.symm ?_) q2
          rw [Bool.eq_false_iff]
          intro ht
          rw [List.all_eq_true] at ht
          have hi' : i < ks.length := by omega
          have e2 : ks[i]? = some ks[i] := List.getElem?_eq_getElem hi'
          simp only [e2] at hf
          have h3 : id ks[i] = true := ht _ (List.getElem_mem hi')
          rw [show id ks[i] = ks[i] from rfl, hf] at h3
          cases h3
      · rw [decide_eq_false h2] at q0
        rw [decide_eq_false (show ¬ (xs.length : Int) ≤ 3 by omega)]
        walk_at "zz"
        exact q0
    · rw [decide_eq_false h1] at q0
      rw [decide_eq_false (show ¬ (1 : Int) ≤ (xs.length : Int) by omega)]
      walk_at "zz"
      exact q0
def NuV (H : Hp) (x : V) (k : Bool) : Prop := (∃ n, TyV H x n ∧ n ≠ "tuple" ∧ k = false) ∨ ∃ p xs ks, x = .ref p ∧ H p = some (.tup xs) ∧ OwnAll H xs ks ∧ k = nuB ks
theorem OwnAll.kp {H H' : Hp} {xs : List V} {ks : List Bool} (h : OwnAll H xs ks) (a : Kp H H') : OwnAll H' xs ks := ⟨h.1, fun i x k hx hk => (h.2 i x k hx hk).kp a⟩
theorem NuV.kp {H H' : Hp} {x : V} {k : Bool} (h : NuV H x k) (a : Kp H H') : NuV H' x k := by
  rcases h with ⟨n, t, r⟩ | ⟨p, xs, ks, e, hp, ow, r⟩
  · exact .inl ⟨n, t.kp a, r⟩
  · exact .inr ⟨p, xs, ks, e, a.tup hp, OwnAll.kp ow a, r⟩
theorem nu_sp {Pt : Addr} {H : Hp} {x : V} {k : Bool} {Q : VK} {E : XK} (h : NuV H x k) (hT : GxR.TabG H Pt) (q : ∀ H2, GxR.Tabbed Pt H H2 → Q (.bl k) H2) : spNums K Pt [x] H Q E := by
  rcases h with ⟨n, t, ne, rfl⟩ | ⟨p, xs, ks, rfl, hp, ow, rfl⟩
  · exact ⟨x, rfl, .inl ⟨n, t.x, t.noTup ne, q H ⟨hT, fun _ _ => rfl⟩⟩⟩
  · exact ⟨_, rfl, .inr ⟨p, xs, ks, rfl, hp, ow, hT, q⟩⟩
theorem own_ints {H : Hp} (ns : List Int) : OwnAll H (ns.map V.int) (ns.map inFar) := by
  refine ⟨by rw [List.length_map, List.length_map], fun i x k hx hk => ?_⟩
  rw [List.getElem?_map] at hx hk
  cases hn : ns[i]? with
  | none => rw [hn] at hx; cases hx
  | some n =>
    rw [hn] at hx hk
    cases hx
    cases hk
    exact .inl ⟨n, rfl, rfl⟩
theorem nu_ints {H : Hp} {p : Addr} {ns : List Int} (hp : H p = some (.tup (ns.map V.int))) (h1 : 1 ≤ ns.length) (h3 : ns.length ≤ 3) (h : ∀ x ∈ ns, inFar x = true) : NuV H (.ref p) true := by
  refine .inr ⟨p, _, _, rfl, hp, own_ints ns, ?_⟩
  unfold nuB
  have e : (ns.map inFar).all id = true := by
    rw [List.all_eq_true]
    intro k hk
    obtain ⟨x, hx, rfl⟩ := List.mem_map.mp hk
    exact h x hx
  rw [List.length_map, decide_eq_true h1, decide_eq_true h3, e]
  rfl
/-! ### a dict as the source of draws -/
def SrcD (H : Hp) (d : Addr) : Prop := ∃ (c : Int) (n : Nat), H d = some (.dK [(.inr "cell", .int c), (.inr "at", .int (n : Int))])
structure Dd (d : Addr) (H H' : Hp) : Prop where
  keep : ∀ a o, a ≠ d → H a = some o → H' a = some o
  src : SrcD H' d
  src0 : SrcD H d
theorem Dd.trans {d : Addr} {H H1 H2 : Hp} (a : Dd d H H1) (b : Dd d H1 H2) : Dd d H H2 := ⟨fun x o n h => b.keep x o n (a.keep x o n h), b.src, a.src0⟩
theorem SrcD.same {d : Addr} {H H' : Hp} (h : SrcD H d) (e : Same H H') : SrcD H' d := by
  obtain ⟨c, n, h⟩ := h
  exact ⟨c, n, e _ _ h⟩
theorem SrcD.ne {d p : Addr} {H : Hp} (h : SrcD H d) (n : H p = none) : p ≠ d := by
  obtain ⟨c, k, h⟩ := h
  intro z
  rw [z, h] at n
  cases n
theorem Dd.of_same {d : Addr} {H H' : Hp} (h : SrcD H d) (e : Same H H') : Dd d H H' := ⟨fun a o _ h => e a o h, h.same e, h⟩
theorem Dd.tup {d a : Addr} {H H' : Hp} {xs : List V} (x : Dd d H H') (ht : H a = some (.tup xs)) : H' a = some (.tup xs) := by
  obtain ⟨c, n, h⟩ := x.src0
  exact x.keep a _ (ne_of ht h (by intro q; cases q)) ht
theorem Dd.lst {d a : Addr} {H H' : Hp} {xs : List V} (x : Dd d H H') (ht : H a = some (.lst xs)) : H' a = some (.lst xs) := by
  obtain ⟨c, n, h⟩ := x.src0
  exact x.keep a _ (ne_of ht h (by intro q; cases q)) ht
theorem Dd.tg {d Pt : Addr} {H H' : Hp} (x : Dd d H H') (h : GxR.TabG H Pt) : GxR.TabG H' Pt := by
  obtain ⟨ps, hp, t⟩ := h
  obtain ⟨c, n, hs⟩ := x.src0
  exact ⟨ps, x.keep _ _ (ne_of hp hs (by intro z; cases z)) hp, t⟩
theorem Dd.back {d a : Addr} {H H' : Hp} (x : Dd d H H') (n : H' a = none) : H a = none := by
  cases e : H a with
  | none => rfl
  | some o =>
    by_cases z : a = d
    · obtain ⟨c, k, h⟩ := x.src
      rw [z, h] at n
      cases n
    · rw [x.keep _ _ z e] at n
      cases n
theorem inV_str (z : Str) : ∀ zs : List Str, inV (.str z) (zs.map V.str) = decide (z ∈ zs)
  | [] => rfl
  | y :: zs => by
    have ih := inV_str z zs
    unfold inV at ih ⊢
    rw [List.map_cons, List.any_cons, ih]
    have e : eqV (.str y) (.str z) = decide (z = y) := by
      by_cases h : z = y
      · rw [h]; simp [eqV]
      · rw [decide_eq_false h]
        simp [eqV]
        exact fun q => h q.symm
    rw [e]
    by_cases h : z = y <;> simp [h]
theorem z_inS {H : Hp} {Q : VK} {p : Addr} {zs : List Str} {z : Str} (h : H p = some (.lst (zs.map V.str))) (q : Q (.bl (decide (z ∈ zs))) H) : rIn K false (.str z) (.ref p) H Q :=
  ⟨p, _, rfl, .inl (SqL.of h), rfl, by rw [List.all_eq_true]; intro x hx; obtain ⟨y, _, rfl⟩ := List.mem_map.mp hx; rfl, by
    rw [show (if false = true then !inV (V.str z) (zs.map V.str) else inV (V.str z) (zs.map V.str)) = decide (z ∈ zs) from inV_str z zs]
    exact q⟩
theorem nodup_snoc {l : List Str} {x : Str} (nd : l.Nodup) (h : x ∉ l) : (l ++ [x]).Nodup := List.nodup_append.mpr ⟨nd, by simp, fun a ha b hb e => h (by rw [← List.mem_singleton.mp hb, ← e]; exact ha)⟩
theorem z_notInS {H : Hp} {Q : VK} {p : Addr} {zs : List Str} {z : Str} (h : H p = some (.lst (zs.map V.str))) (q : Q (.bl (!decide (z ∈ zs))) H) : rIn K true (.str z) (.ref p) H Q :=
  ⟨p, _, rfl, .inl (SqL.of h), rfl, by rw [List.all_eq_true]; intro x hx; obtain ⟨y, _, rfl⟩ := List.mem_map.mp hx; rfl, by
    rw [show (if true = true then !inV (V.str z) (zs.map V.str) else inV (V.str z) (zs.map V.str)) = !decide (z ∈ zs) from congrArg (!·) (inV_str z zs)]
    exact q⟩
theorem cut_from {α : Type} (f : α → V) (l : List α) (a : Nat) (h : a ≤ l.length) : cutV (l.map f) (some (a : Int)) none = (l.drop a).map f := by
  unfold cutV
  rw [HT.sIx_nat, HT.sIx_none, List.length_map, Nat.min_eq_left h, ← List.map_drop]
  exact List.take_of_length_le (by rw [List.length_map, List.length_drop]; omega)
theorem cut_to {α : Type} (f : α → V) (l : List α) (a : Nat) (h : a ≤ l.length) : cutV (l.map f) none (some (a : Int)) = (l.take a).map f := by
  unfold cutV
  rw [HT.sIx_nat, HT.sIx_none, List.length_map, Nat.min_eq_left h, List.drop_zero, Nat.sub_zero, ← List.map_take]
theorem cut_any {α : Type} (f : α → V) (l : List α) (a : Nat) : cutV (l.map f) none (some (a : Int)) = (l.take a).map f := by
  unfold cutV
  rw [HT.sIx_nat, HT.sIx_none, List.length_map, List.drop_zero, Nat.sub_zero, ← List.map_take]
  congr 1
  by_cases h : a ≤ l.length
  · rw [Nat.min_eq_left h]
  · rw [Nat.min_eq_right (by omega), List.take_of_length_le (Nat.le_refl _), List.take_of_length_le (by omega)]
theorem lc_str {z : Str} {g : TG} {tt : TT} {te : TE} {vs : List Nat} {σ : L2.St} {H1 : Hp} {D : Addr} {Qd : Hp → Prop} (Pv : Nat → Hp → Prop) (h0 : Pv 0 (upd H1 D (.lst [])))
    (hs : ∀ i c H, z.cps[i]? = some c → Pv i H → g (.str ⟨#[c]⟩) (wipe σ vs) H fun σ2 H2 => wipe σ2 vs = wipe σ vs ∧ tt σ2 H2 fun b H3 => if b = true then te σ2 H3 fun y H4 => ∃ acc, H4 D = some (.lst acc) ∧ acc.length < sizeLine ∧ Pv (i + 1) (upd H4 D (.lst (acc ++ [y]))) else Pv (i + 1) H3) (hd : ∀ H, Pv z.cps.size H → Qd H) :
    ∃ W : Nat → Nat → Hp → Prop, (∃ m, W 0 m (upd H1 D (.lst []))) ∧ ∀ i m H, W i m H → ((Its z).stop i H ∧ Qd H) ∨ ((Its z).go i H ∧ ∃ Nx : Hp → Prop, (∀ H', Nx H' → ∃ m', m' < m ∧ W (i + 1) m' H') ∧ ∀ x H', (Its z).yld i H x H' → g x (wipe σ vs) H' fun σ2 H2 => wipe σ2 vs = wipe σ vs ∧ tt σ2 H2 fun b H3 =>
      if b = true then te σ2 H3 fun y H4 => ∃ acc, H4 D = some (.lst acc) ∧ acc.length < sizeLine ∧ Nx (upd H4 D (.lst (acc ++ [y]))) else Nx H3) := by
  refine ⟨fun i m H => i ≤ z.cps.size ∧ m = z.cps.size - i ∧ Pv i H, ⟨z.cps.size, Nat.zero_le _, by simp, h0⟩, ?_⟩
  rintro i m H ⟨hi, rfl, p⟩
  by_cases lt : i < z.cps.size
  · refine .inr ⟨lt, Pv (i + 1), fun H' p' => ⟨z.cps.size - (i + 1), by omega, lt, rfl, p'⟩, fun x H' y => ?_⟩
    obtain ⟨rfl, c, hc, rfl⟩ := y
    exact hs i c _ hc p
  · have e : i = z.cps.size := by omega
    subst e
    exact .inl ⟨Nat.le_refl _, hd H p⟩
theorem z_neS {H : Hp} {Q : VK} {y z : Str} (q : Q (.bl (!decide (y = z))) H) : rNe (.str y) (.str z) H Q := ⟨rfl, by
  have e : decide (V.str y = V.str z) = decide (y = z) := by
    by_cases h : y = z
    · rw [h, decide_eq_true rfl, decide_eq_true rfl]
    · rw [decide_eq_false h, decide_eq_false (fun z => h (V.str.inj z))]
  rw [e]
  exact q⟩
theorem z_eqS {H : Hp} {Q : VK} {y z : Str} (q : Q (.bl (decide (y = z))) H) : rEq (.str y) (.str z) H Q := ⟨rfl, by
  have e : decide (V.str y = V.str z) = decide (y = z) := by
    by_cases h : y = z
    · rw [h, decide_eq_true rfl, decide_eq_true rfl]
    · rw [decide_eq_false h, decide_eq_false (fun z => h (V.str.inj z))]
  rw [e]
  exact q⟩
/-! ### things as data, all of them tracked -/
mutual
inductive Da (H : Hp) : V → PyData → Prop
  | non : Da H .non .none
  | bl (b : Bool) : Da H (.bl b) (.bool b)
  | int (i : Int) : Da H (.int i) (.int i)
  | str (x : Str) : x.length ≤ 1000 → PyData.strOk x = true → Da H (.str x) (.str x)
  | lst {a : Addr} {xs : List V} {ds : List PyData} : H a = some (.lst xs) → DaAll H xs ds → Da H (.ref a) (.list ds)
  | tup {a : Addr} {xs : List V} {ds : List PyData} : H a = some (.tup xs) → DaAll H xs ds → Da H (.ref a) (.tuple ds)
inductive DaAll (H : Hp) : List V → List PyData → Prop
  | nil : DaAll H [] []
  | cons {v : V} {vs : List V} {d : PyData} {ds : List PyData} : Da H v d → DaAll H vs ds → DaAll H (v :: vs) (d :: ds)
end
/-- all tuples and lists are kept -/
structure KD (H H' : Hp) : Prop where
  t : ∀ b xs, H b = some (.tup xs) → H' b = some (.tup xs)
  l : ∀ b xs, H b = some (.lst xs) → H' b = some (.lst xs)
theorem KD.trans {H H1 H2 : Hp} (a : KD H H1) (b : KD H1 H2) : KD H H2 := ⟨fun x xs h => b.t x xs (a.t x xs h), fun x xs h => b.l x xs (a.l x xs h)⟩
theorem KD.of_kp {H H' : Hp} (k : Kp H H') : KD H H' := ⟨fun _ _ h => k.tup h, fun _ _ h => k.lst h⟩
theorem KD.of_same {H H' : Hp} (e : Same H H') : KD H H' := ⟨fun _ _ h => e _ _ h, fun _ _ h => e _ _ h⟩
theorem KD.of_dd {s : Addr} {H H' : Hp} (d : Dd s H H') : KD H H' := ⟨fun _ _ h => d.tup h, fun _ _ h => d.lst h⟩
mutual
theorem Da.mv {H H' : Hp} (k : KD H H') : ∀ {v : V} {d : PyData}, Da H v d → Da H' v d
  | _, _, .non => .non
  | _, _, .bl b => .bl b
  | _, _, .int i => .int i
  | _, _, .str x h g => .str x h g
  | _, _, .lst h g => .lst (k.l _ _ h) (DaAll.mv k g)
  | _, _, .tup h g => .tup (k.t _ _ h) (DaAll.mv k g)
theorem DaAll.mv {H H' : Hp} (k : KD H H') : ∀ {vs : List V} {ds : List PyData}, DaAll H vs ds → DaAll H' vs ds
  | _, _, .nil => .nil
  | _, _, .cons h g => .cons (Da.mv k h) (DaAll.mv k g)
end
mutual
theorem Da.dp {H : Hp} : ∀ {v : V} {d : PyData}, Da H v d → Dp K H v d
  | _, _, .non => .non
  | _, _, .bl b => .bl b
  | _, _, .int i => .int i
  | _, _, .str x _ _ => .str x
  | _, _, .lst h g => .lst (SqL.of h) (DaAll.dp g)
  | _, _, .tup h g => .tup (SqT.of h) (DaAll.dp g)
theorem DaAll.dp {H : Hp} : ∀ {vs : List V} {ds : List PyData}, DaAll H vs ds → DpAll K H vs ds
  | _, _, .nil => .nil
  | _, _, .cons h g => .cons (Da.dp h) (DaAll.dp g)
end
mutual
theorem Da.lay {H : Hp} : ∀ {v : V} {d : PyData}, Da H v d → d.canLay0 = true
  | _, _, .non => rfl
  | _, _, .bl b => rfl
  | _, _, .int i => rfl
  | _, _, .str x _ g => g
  | _, _, .lst h g => by unfold PyData.canLay0; exact DaAll.lay g
  | _, _, .tup h g => by unfold PyData.canLay0; exact DaAll.lay g
theorem DaAll.lay {H : Hp} : ∀ {vs : List V} {ds : List PyData}, DaAll H vs ds → PyData.canLayAll0 ds = true
  | _, _, .nil => rfl
  | _, _, .cons h g => by unfold PyData.canLayAll0; rw [Da.lay h, DaAll.lay g]; rfl
end
theorem DaAll.len {H : Hp} : ∀ {vs : List V} {ds : List PyData}, DaAll H vs ds → vs.length = ds.length
  | _, _, .nil => rfl
  | _, _, .cons _ g => by rw [List.length_cons, List.length_cons, DaAll.len g]
theorem DaAll.get {H : Hp} : ∀ {vs : List V} {ds : List PyData} {i : Nat} {v : V}, DaAll H vs ds → vs[i]? = some v → ∃ d, ds[i]? = some d ∧ Da H v d
  | _, _, _, _, .nil, h => by simp at h
  | _, _, 0, _, .cons a _, h => by cases h; exact ⟨_, rfl, a⟩
  | _, _, i + 1, _, .cons _ g, h => DaAll.get (i := i) g h
theorem DaAll.app {H : Hp} : ∀ {xs ys : List V} {ds es : List PyData}, DaAll H xs ds → DaAll H ys es → DaAll H (xs ++ ys) (ds ++ es)
  | _, _, _, _, .nil, h => h
  | _, _, _, _, .cons a b, h => .cons a (DaAll.app b h)
theorem DaAll.take {H : Hp} : ∀ {xs : List V} {ds : List PyData} (n : Nat), DaAll H xs ds → DaAll H (xs.take n) (ds.take n)
  | _, _, 0, h => by rw [List.take_zero, List.take_zero]; exact .nil
  | _, _, _ + 1, .nil => .nil
  | _, _, n + 1, .cons a b => .cons a (DaAll.take n b)
theorem DaAll.drop {H : Hp} : ∀ {xs : List V} {ds : List PyData} (n : Nat), DaAll H xs ds → DaAll H (xs.drop n) (ds.drop n)
  | _, _, 0, h => h
  | _, _, _ + 1, .nil => .nil
  | _, _, n + 1, .cons a b => DaAll.drop n b
theorem Da.tupE {H : Hp} {v : V} {ds : List PyData} (h : Da H v (.tuple ds)) : ∃ p xs, v = .ref p ∧ H p = some (.tup xs) ∧ DaAll H xs ds := by
  cases h with
  | tup h g => exact ⟨_, _, rfl, h, g⟩
theorem Da.strE {H : Hp} {v : V} {z : Str} (h : Da H v (.str z)) : v = .str z ∧ z.length ≤ 1000 ∧ PyData.strOk z = true := by
  cases h with
  | str _ h g => exact ⟨rfl, h, g⟩
theorem Da.intE {H : Hp} {v : V} {n : Int} (h : Da H v (.int n)) : v = .int n := by
  cases h with
  | int => rfl
theorem Da.noneE {H : Hp} {v : V} (h : Da H v .none) : v = .non := by
  cases h with
  | non => rfl
def tyD : PyData → String
  | .none => "NoneType"
  | .bool _ => "bool"
  | .int _ => "int"
  | .str _ => "str"
  | .list _ => "list"
  | .tuple _ => "tuple"
  | _ => ""
theorem Da.ty {H : Hp} {v : V} {d : PyData} (h : Da H v d) : TyV H v (tyD d) := by
  cases h with
  | non => exact .non
  | bl b => exact .bl b
  | int i => exact .int i
  | str x _ _ => exact .str x
  | lst h g => exact .lst h
  | tup h g => exact .tup h
/-! ### the tests of forms, on data -/
def wholeD : PyData → Bool
  | .int _ => true
  | _ => false
def countD (least : Int) : PyData → Bool
  | .int n => decide (least ≤ n)
  | _ => false
def tupD (n : Nat) : PyData → Bool
  | .tuple ds => decide (ds.length = n)
  | _ => false
def stampD : PyData → Bool
  | .tuple [a, b] => countD 1 a && countD 0 b
  | _ => false
def nameD : PyData → Bool
  | .str z => nmB z
  | _ => false
def strD : PyData → Str
  | .str z => z
  | _ => ""
def lenD : PyData → Nat
  | .tuple ds => ds.length
  | _ => 0
def itD : PyData → List PyData
  | .tuple ds => ds
  | _ => []
def firstD : PyData → PyData
  | .tuple (x :: _) => x
  | _ => .none
def ownD : PyData → Bool
  | .int n => inFar n
  | _ => false
def numsD : PyData → Bool
  | .tuple ds => nuB (ds.map ownD)
  | _ => false
def partD : PyData → Bool
  | .tuple [.int a, .int b] => ptB a b
  | _ => false
def isTupD : PyData → Bool
  | .tuple _ => true
  | _ => false
def rowD (n : Nat) (d : PyData) : Bool := tupD n d && (itD d).all partD
def riseB : List Str → Bool
  | [] => true
  | [_] => true
  | x :: y :: l => decide (x.cps.toList < y.cps.toList) && riseB (y :: l)
def othersD (own : Str) (d : PyData) : Bool := isTupD d && ((itD d).all nameD && (!decide (own ∈ (itD d).map strD) && riseB ((itD d).map strD)))
def entryD (n : Nat) : PyData → Bool
  | .tuple [z, l, v, u, o] => nameD z && (countD 1 l && (countD 1 v && (numsD u && (decide (lenD u = n) && othersD (strD z) o))))
  | _ => false
def rollD (n : Nat) (d : PyData) : Bool := isTupD d && ((itD d).all (entryD n) && riseB ((itD d).map fun x => strD (firstD x)))
def eraD : PyData → Bool
  | .tuple [z, c] => nameD z && countD 0 c
  | _ => false
def seenD : PyData → Bool
  | .none => true
  | d => stampD d
def accD (n : Nat) : PyData → Bool
  | .tuple [z, s, g, r, t, q] => nameD z && (seenD s && (countD 0 g && (rowD n r && (countD 0 t && rowD n q))))
  | _ => false
def allT (f : PyData → Bool) (d : PyData) : Bool := isTupD d && (itD d).all f
def accsD (n : Nat) (d : PyData) : Bool := allT (accD n) d
def knownD (d : PyData) : List PyData := (itD d).map firstD
def booksD : PyData → Bool
  | .tuple [z, l, v, u, e, a, r] => nameD z && (numsD u && (allT eraD e && (accsD (lenD u + 1) a && (rollD (lenD u) r && (othersD (strD z) (.tuple (knownD e)) && (othersD (strD z) (.tuple (knownD a)) && ((knownD a).all (fun x => decide (strD x ∈ (knownD e).map strD)) &&
      (entryD (lenD u) (.tuple [z, l, v, u, .tuple (knownD a)]) && (itD r).any (fun x => PyData.eqv x (.tuple [z, l, v, u, .tuple (knownD a)])))))))))) 
  | _ => false
theorem Da.whole {H : Hp} {v : V} {d : PyData} {Q : VK} {E : XK} (h : Da H v d) (q : Q (.bl (wholeD d)) H) : spWhole K [v] H Q E := by
  cases h with
  | non => exact ⟨_, "NoneType", false, false, rfl, .base .non, by decide +kernel, by decide +kernel, q⟩
  | bl b => exact ⟨_, "bool", true, true, rfl, .base (.bl b), by decide +kernel, by decide +kernel, q⟩
  | int i => exact ⟨_, "int", true, false, rfl, .base (.int i), by decide +kernel, by decide +kernel, q⟩
  | str x _ _ => exact ⟨_, "str", false, false, rfl, .base (.str x), by decide +kernel, by decide +kernel, q⟩
  | lst h g => exact ⟨_, "list", false, false, rfl, .base (.lst h), by decide +kernel, by decide +kernel, q⟩
  | tup h g => exact ⟨_, "tuple", false, false, rfl, .base (.tup h), by decide +kernel, by decide +kernel, q⟩
theorem Da.name {Pt : Addr} {H : Hp} {v : V} {d : PyData} {Q : VK} {E : XK} (h : Da H v d) (hT : GxR.TabG H Pt) (q : ∀ H2, GxR.Tabbed Pt H H2 → Q (.bl (nameD d)) H2) : spIsName K Pt [v] H Q E := by
  have q0 := q H ⟨hT, fun _ _ => rfl⟩
  cases h with
  | non => exact ⟨_, rfl, .inl ⟨"NoneType", .base .non, by decide +kernel, q0⟩⟩
  | bl b => exact ⟨_, rfl, .inl ⟨"bool", .base (.bl b), by decide +kernel, q0⟩⟩
  | int i => exact ⟨_, rfl, .inl ⟨"int", .base (.int i), by decide +kernel, q0⟩⟩
  | str x l _ => exact ⟨_, rfl, .inr ⟨x, rfl, l, hT, q⟩⟩
  | lst h g => exact ⟨_, rfl, .inl ⟨"list", .base (.lst h), by decide +kernel, q0⟩⟩
  | tup h g => exact ⟨_, rfl, .inl ⟨"tuple", .base (.tup h), by decide +kernel, q0⟩⟩
theorem Da.ownV {H : Hp} {v : V} {d : PyData} (h : Da H v d) : OwnV H v (ownD d) := by
  cases h with
  | non => exact .inr ⟨rfl, .non⟩
  | bl b => exact .inr ⟨rfl, .bl b⟩
  | int i => exact .inl ⟨i, rfl, rfl⟩
  | str x l _ => exact .inr ⟨rfl, .str x⟩
  | lst h g => exact .inr ⟨rfl, .lst h⟩
  | tup h g => exact .inr ⟨rfl, .tup h⟩
theorem Da.nums {Pt : Addr} {H : Hp} {v : V} {d : PyData} {Q : VK} {E : XK} (h : Da H v d) (hT : GxR.TabG H Pt) (q : ∀ H2, GxR.Tabbed Pt H H2 → Q (.bl (numsD d)) H2) : spNums K Pt [v] H Q E := by
  refine nu_sp ?_ hT q
  by_cases ht : ∃ ds, d = .tuple ds
  · obtain ⟨ds, rfl⟩ := ht
    obtain ⟨p, xs, rfl, hp, g⟩ := h.tupE
    refine .inr ⟨p, xs, ds.map ownD, rfl, hp, ⟨by rw [List.length_map, g.len], fun i x k hx hk => ?_⟩, rfl⟩
    obtain ⟨d, hd, da⟩ := g.get hx
    rw [List.getElem?_map, hd] at hk
    cases hk
    exact da.ownV
  · refine .inl ⟨_, h.ty, fun z => ?_, ?_⟩
    · cases h with
      | tup hp g => exact ht ⟨_, rfl⟩
      | _ => simp [tyD] at z
    · unfold numsD
      split
      · exact absurd ⟨_, rfl⟩ ht
      · rfl
theorem Da.wholeV {H : Hp} {v : V} {d : PyData} (h : Da H v d) : WholeV K H v (wholeD d) := by
  cases h with
  | non => exact ⟨"NoneType", false, false, .base .non, by decide +kernel, by decide +kernel, rfl⟩
  | bl b => exact ⟨"bool", true, true, .base (.bl b), by decide +kernel, by decide +kernel, rfl⟩
  | int i => exact ⟨"int", true, false, .base (.int i), by decide +kernel, by decide +kernel, rfl⟩
  | str x _ _ => exact ⟨"str", false, false, .base (.str x), by decide +kernel, by decide +kernel, rfl⟩
  | lst h g => exact ⟨"list", false, false, .base (.lst h), by decide +kernel, by decide +kernel, rfl⟩
  | tup h g => exact ⟨"tuple", false, false, .base (.tup h), by decide +kernel, by decide +kernel, rfl⟩
theorem Da.noT {H : Hp} {v : V} {d : PyData} (h : Da H v d) (ht : isTupD d = false) : TyX K H v (.type (tyD d)) ∧ kitB (tyD d) "tuple" = some false :=
  ⟨h.ty.x, h.ty.noTup fun z => by
    cases h with
    | tup hp g => cases ht
    | _ => simp [tyD] at z⟩
theorem isT {d : PyData} (h : isTupD d = true) : ∃ ds, d = .tuple ds := by
  cases d <;> first | exact ⟨_, rfl⟩ | cases h
theorem Da.partQ {H : Hp} {v : V} {d : PyData} (h : Da H v d) : PartQ K H v (partD d) := by
  cases ht : isTupD d with
  | false =>
    have e : partD d = false := by cases d <;> first | rfl | cases ht
    exact .inl ⟨e, _, h.noT ht⟩
  | true =>
    obtain ⟨ds, rfl⟩ := isT ht
    obtain ⟨p, xs, rfl, hp, g⟩ := h.tupE
    refine .inr ⟨p, xs, rfl, hp, ?_⟩
    by_cases l2 : xs.length = 2
    · cases g with
      | nil => simp at l2
      | cons a g =>
        cases g with
        | nil => simp at l2
        | cons b g =>
          cases g with
          | cons c g => simp at l2
          | nil =>
            rename_i v1 d1 v2 d2
            by_cases hw : (wholeD d1 && wholeD d2) = true
            · rw [Bool.and_eq_true] at hw
              obtain ⟨w1, w2⟩ := hw
              cases a <;> first | cases w1 | skip
              cases b <;> first | cases w2 | skip
              exact .inr (.inl ⟨_, _, rfl, rfl⟩)
            · rw [Bool.not_eq_true] at hw
              refine .inr (.inr ⟨?_, v1, v2, _, _, rfl, a.wholeV, b.wholeV, hw⟩)
              cases d1 <;> first | rfl | skip
              cases d2 <;> first | rfl | skip
              cases hw
    · refine .inl ⟨?_, l2⟩
      rw [g.len] at l2
      unfold partD
      split
      · rename_i e
        cases e
        simp at l2
      · rfl
def spTupOf : Sp := fun vs H Q _ => ∃ (v : V) (d : PyData) (n : Nat), vs = [v, .int (n : Int)] ∧ Da H v d ∧ Q (.bl (tupD n d)) H
theorem ok_is_tuple_of {f : Addr} {fd : FuncData} (F : FnP K "is_tuple_of" s_is_tuple_of f fd) (m_isinstance : mg "isinstance" = none) (m_tuple : mg "tuple" = none) (m_len : mg "len" = none) : FnOk P w K mg base CX0 1 f fd ["thing", "many"] spTupOf := by
  refine F.ok sc_is_tuple_of (fun vs H Q E h => ?_) (fun cdv A outer s H vs Q E hr h => ?_)
  · obtain ⟨v, d, n, rfl, _⟩ := h; rfl
  obtain ⟨v, d, n, rfl, hv, q⟩ := h
  refine ⟨_, PSs.nox (pss_one (ps_ret (pe_and (pe_callB (call_isiE K) (by rfl) m_isinstance (by decide +kernel) (pa_cons (pv 0) (pa_cons (pe_bltn (v := .ty "tuple") (by rfl) m_tuple (by decide +kernel) rfl) pa_nil))) (pe_one (pe_cmpR op_eq (pe_callB (call_lenE K) (by rfl) m_len (by decide +kernel) (pa_cons (pv 0) pa_nil)) (pv 1) (nomark _)))))), ?_⟩
  walk_at "zz"
  cases ht : isTupD d with
  | true =>
    obtain ⟨ds, rfl⟩ := isT ht
    obtain ⟨p, xs, rfl, hp, g⟩ := hv.tupE
    refine z_isi (n := "tuple") (k := true) (.base (.tup hp)) (by decide +kernel) ?_
    walk_at "zz"
    refine z_lenT hp ?_
    walk_at "zz"
    rw [g.len]
    refine bool_bl ?_ q
    show decide ((ds.length : Int) = (n : Int)) = decide (ds.length = n)
    exact decide_eq_decide.mpr ⟨fun h => by omega, fun h => by omega⟩
  | false =>
    have e : tupD n d = false := by cases d <;> first | rfl | cases ht
    rw [e] at q
    refine z_isi (Da.noT (K := K) hv ht).1 (Da.noT (K := K) hv ht).2 ?_
    walk_at "zz"
    exact q
def spCount : Sp := fun vs H Q _ => ∃ (v : V) (d : PyData) (n : Int), vs = [v, .int n] ∧ Da H v d ∧ Q (.bl (countD n d)) H
theorem ok_is_count {f : Addr} {fd : FuncData} (F : FnP K "is_count" s_is_count f fd) (h_is_whole_number : Has P w K mg base 1 "is_whole_number" ["thing"] (spWhole K)) : FnOk P w K mg base CX0 2 f fd ["thing", "least"] spCount := by
  refine F.ok sc_is_count (fun vs H Q E h => ?_) (fun cdv A outer s H vs Q E hr h => ?_)
  · obtain ⟨v, d, n, rfl, _⟩ := h; rfl
  obtain ⟨v, d, n, rfl, hv, q⟩ := h
  refine ⟨_, PSs.nox (pss_one (ps_ret (pe_and (pe_callH h_is_whole_number (hr.mono (by decide)) (by rfl) (pa_cons (pv 0) pa_nil)) (pe_one (pe_cmpR op_ge (pv 0) (pv 1) (nomark _)))))), ?_⟩
  walk_at "zz"
  refine hv.whole ?_
  cases hw : wholeD d with
  | false =>
    have e : countD n d = false := by cases d <;> first | rfl | cases hw
    rw [e] at q
    walk_at "zz"
    exact q
  | true =>
    obtain ⟨i, rfl⟩ : ∃ i, d = .int i := by cases d <;> first | exact ⟨_, rfl⟩ | cases hw
    cases hv.intE
    walk_at "zz"
    exact q
theorem tup2 {d : PyData} (h : tupD 2 d = true) : ∃ a b, d = .tuple [a, b] := by
  cases d <;> first | cases h | skip
  rename_i ds
  have h := of_decide_eq_true h
  match ds, h with
  | [a, b], _ => exact ⟨a, b, rfl⟩
def spStamp : Sp := fun vs H Q _ => ∃ (v : V) (d : PyData), vs = [v] ∧ Da H v d ∧ Q (.bl (stampD d)) H
theorem ok_is_stamp {f : Addr} {fd : FuncData} (F : FnP K "is_stamp" s_is_stamp f fd) (h_is_tuple_of : Has P w K mg base 1 "is_tuple_of" ["thing", "many"] spTupOf) (h_is_count : Has P w K mg base 2 "is_count" ["thing", "least"] spCount) : FnOk P w K mg base CX0 3 f fd ["thing"] spStamp := by
  refine F.ok sc_is_stamp (fun vs H Q E h => ?_) (fun cdv A outer s H vs Q E hr h => ?_)
  · obtain ⟨v, d, rfl, _⟩ := h; rfl
  obtain ⟨v, d, rfl, hv, q⟩ := h
  refine ⟨_, PSs.nox (pss_one (ps_ret (pe_and (pe_callH h_is_tuple_of (hr.mono (by decide)) (by rfl) (pa_cons (pv 0) (pa_cons pe_int pa_nil))) (pe_and (pe_callH h_is_count (hr.mono (by decide)) (by rfl) (pa_cons (pe_ix (ix_tupE K) (pv 0) pe_int (fun _ _ => rfl)) (pa_cons pe_int pa_nil))) (pe_one (pe_callH h_is_count (hr.mono (by decide)) (by rfl) (pa_cons (pe_ix (ix_tupE K) (pv 0) pe_int (fun _ _ => rfl)) (pa_cons pe_int pa_nil)))))))), ?_⟩
  walk_at "zz"
  refine ⟨v, d, 2, rfl, hv, ?_⟩
  cases ht : tupD 2 d with
  | false =>
    have e : stampD d = false := by
      unfold stampD
      split
      · cases ht
      · rfl
    rw [e] at q
    walk_at "zz"
    exact q
  | true =>
    obtain ⟨a, b, rfl⟩ := tup2 ht
    obtain ⟨p, xs, rfl, hp, g⟩ := hv.tupE
    cases g with
    | cons ha g =>
      cases g with
      | cons hb g =>
        cases g
        walk_at "zz"
        refine z_ixT (SqT.of hp) rfl ?_
        walk_at "zz"
        refine ⟨_, a, 1, rfl, ha, ?_⟩
        have e : stampD (.tuple [a, b]) = (countD 1 a && countD 0 b) := rfl
        rw [e] at q
        cases h1 : countD 1 a with
        | false =>
          rw [h1] at q
          walk_at "zz"
          exact q
        | true =>
          rw [h1] at q
          walk_at "zz"
          refine z_ixT (SqT.of hp) rfl ?_
          walk_at "zz"
          exact ⟨_, b, 0, rfl, hb, q⟩
/-- all(.. for .. in a tuple of data) -/
theorem all_da {Ps : List Addr} {p : Addr} {xs : List V} {ds : List PyData} {g : TG} {te : TE} {vs : List Nat} {σw : L2.St} {H2 : Hp} {Qt Qf : Hp → Prop} (f : PyData → Bool) (hT : TGs H2 Ps) (hp : H2 p = some (.tup xs)) (gd : DaAll H2 xs ds)
    (hs : ∀ x d H, d ∈ ds → Da H x d → Kc Ps H2 H → ∀ (Q' : VK) (B : Hp → Prop), (∀ H3, Kc Ps H H3 → Q' (.bl (f d)) H3) → g x σw H fun σ2 H3 => wipe σ2 vs = σw ∧ tYes σ2 H3 fun b H4 => if b = true then te σ2 H4 Q' else B H4)
    (q : ∀ H, Kc Ps H2 H → if ds.all f = true then Qt H else Qf H) : ∃ W : Nat → Nat → Hp → Prop, (∃ m, W 0 m H2) ∧ AllTurns (Itt K p) g tYes te vs σw W Qt Qf := by
  refine all_kc (Ps := Ps) (J := Itt K p) xs.length (fun i => match ds[i]? with | some d => f d | none => true) hT (fun i H hi k => ⟨xs, xs[i], SqT.of (k.kp.tup hp), List.getElem?_eq_getElem hi⟩) (fun H k => ⟨xs, SqT.of (k.kp.tup hp), Nat.le_refl _⟩) (fun i x H H' hi k hy Q' B hq => ?_) (fun ha H k => ?_) (fun i hi hf H k => ?_)
  · obtain ⟨rfl, hx⟩ := hy
    obtain ⟨d, hd, da⟩ := (DaAll.mv (KD.of_kp k.kp) gd).get (hx xs (SqT.of (k.kp.tup hp)))
    refine hs x d _ (List.mem_of_getElem? hd) da k Q' B ?_
    simpa [hd] using hq
  · have e : ds.all f = true := by
      rw [List.all_eq_true]
      intro d hd
      obtain ⟨j, hj, e⟩ := List.getElem_of_mem hd
      have := ha j (by rw [gd.len]; exact hj)
      simpa [List.getElem?_eq_getElem hj, e] using this
    have := q H k
    rwa [if_pos e] at this
  · have hi' : i < ds.length := by rw [← gd.len]; exact hi
    have e : ¬ ds.all f = true := by
      intro ht
      rw [List.all_eq_true] at ht
      simp only [List.getElem?_eq_getElem hi'] at hf
      rw [ht _ (List.getElem_mem hi')] at hf
      cases hf
    have := q H k
    rwa [if_neg e] at this
theorem ite_bl {Q : VK} {b : Bool} {H : Hp} (q : Q (.bl b) H) : if b = true then Q (.bl true) H else Q (.bl false) H := by
  cases b with
  | true => exact q
  | false => exact q
def spTn (Ps : List Addr) (f : Nat → PyData → Bool) : Sp := fun vs H Q _ => ∃ (v : V) (d : PyData) (n : Nat), vs = [v, .int (n : Int)] ∧ Da H v d ∧ TGs H Ps ∧ ∀ H2, Kc Ps H H2 → Q (.bl (f n d)) H2
def spT0 (Ps : List Addr) (f : PyData → Bool) : Sp := fun vs H Q _ => ∃ (v : V) (d : PyData), vs = [v] ∧ Da H v d ∧ TGs H Ps ∧ ∀ H2, Kc Ps H H2 → Q (.bl (f d)) H2
theorem tup_isT {n : Nat} {d : PyData} (h : tupD n d = true) : ∃ ds, d = .tuple ds ∧ ds.length = n := by
  cases d <;> first | cases h | skip
  exact ⟨_, rfl, of_decide_eq_true h⟩
theorem ok_is_row {f ca Pt : Addr} {Ps : List Addr} {fd : FuncData} (F : FnP K "is_row" s_is_row f fd) (hcd : fd.code = .ref ca) (TB : GxR.TabB base mg ca Pt) (iP : Pt ∈ Ps) (m_all : mg "all" = none) (h_is_tuple_of : Has P w K mg base 1 "is_tuple_of" ["thing", "many"] spTupOf) (h_is_part : Has P w K mg base 3 "is_part" ["thing"] (spIsPart K)) : FnOk P w K mg base CX0 8 f fd ["thing", "parts"] (spTn Ps rowD) := by
  refine okC F sc_is_row (fun vs H Q E h => ?_) (fun A outer s H vs Q E hr h => ?_)
  · obtain ⟨v, d, n, rfl, _⟩ := h; rfl
  obtain ⟨v, d, n, rfl, hv, hT, q⟩ := h
  refine ⟨_, PSs.nox (pss_one (ps_ret (pe_and (pe_callH h_is_tuple_of (hr.mono (by decide)) (by rfl) (pa_cons (pv 0) (pa_cons (pv 1) pa_nil))) (pe_one (pe_all (k := 3) (own := [("one", 2)]) (g := gName 2) (hr.mono (by decide)) (by rfl) m_all TB hcd (by rfl) sc_is_row.nd (pi_tupE K (pv 0)) (blkOk_by (own := [("one", 2)]) (N := ["thing", "parts", "one"]) (sc := defScope s_is_row) (by decide +kernel)) ⟨rfl, by decide +kernel, rfl⟩ (fun _ _ _ _ _ _ _ hr => (pg_name (i := 2) sc_is_row.nd rfl (.inl rfl))) (fun _ _ _ _ _ _ _ hr => pts_nil) (fun _ _ _ _ _ _ _ hr => (pe_callH h_is_part (hr.mono (by decide)) (by rfl) (pa_cons (pv 2) pa_nil))) (fun _ => rfl)))))), ?_⟩
  walk_at "zz"
  refine ⟨v, d, n, rfl, hv, ?_⟩
  unfold rowD at q
  cases ht : tupD n d with
  | false =>
    rw [ht] at q
    walk_at "zz"
    exact q H (Kc.refl hT)
  | true =>
    rw [ht] at q
    obtain ⟨ds, rfl, hl⟩ := tup_isT ht
    obtain ⟨p, xs, rfl, hp, g⟩ := hv.tupE
    walk_at "zz"
    refine ⟨_, rfl, p, rfl, ⟨_, SqT.of hp⟩, hT _ iP, fun H2 T2 => ?_⟩
    have c2 := Kc.of_tab hT iP T2
    refine all_da partD c2.tg (c2.kp.tup hp) (DaAll.mv (KD.of_kp c2.kp) g) (fun x d H3 _ hd k3 Q' B hq => ?_) (fun H3 k3 => ite_bl (q _ (c2.trans k3)))
    refine ⟨rfl, ?_⟩
    walk_at "zz"
    exact ⟨x, _, rfl, hd.partQ, hq _ (Kc.refl k3.tg)⟩
theorem cutV_frm (l : List V) (a : Nat) : cutV l (some (a : Int)) none = l.drop a := by
  unfold cutV
  rw [HT.sIx_nat, HT.sIx_none]
  by_cases h : a ≤ l.length
  · rw [Nat.min_eq_left h, List.take_of_length_le (by rw [List.length_drop]; omega)]
  · rw [Nat.min_eq_right (by omega), Nat.sub_self, List.take_zero, List.drop_eq_nil_of_le (by omega)]
theorem cutV_to (l : List V) (a : Nat) : cutV l none (some (a : Int)) = l.take a := by
  unfold cutV
  rw [HT.sIx_nat, HT.sIx_none, List.drop_zero, Nat.sub_zero]
  by_cases h : a ≤ l.length
  · rw [Nat.min_eq_left h]
  · rw [Nat.min_eq_right (by omega), List.take_of_length_le (Nat.le_refl _), List.take_of_length_le (by omega)]
theorem riseB_iff : ∀ zs : List Str, riseB zs = true ↔ ∀ (i : Nat) (a b : Str), zs[i]? = some a → zs[i + 1]? = some b → a.cps.toList < b.cps.toList
  | [] => ⟨fun _ i a b h _ => by simp at h, fun _ => rfl⟩
  | [x] => ⟨fun _ i a b _ h => by simp at h, fun _ => rfl⟩
  | x :: y :: l => by
    unfold riseB
    rw [Bool.and_eq_true, decide_eq_true_eq, riseB_iff (y :: l)]
    constructor
    · rintro ⟨h1, h2⟩ i a b ha hb
      cases i with
      | zero => cases ha; cases hb; exact h1
      | succ i => exact h2 i a b ha hb
    · intro h
      exact ⟨h 0 x y rfl rfl, fun i a b ha hb => h (i + 1) a b ha hb⟩
def spRise (Ps : List Addr) : Sp := fun vs H Q _ => ∃ (p : Addr) (zs : List Str), vs = [.ref p] ∧ (H p = some (.tup (zs.map V.str)) ∨ H p = some (.lst (zs.map V.str))) ∧ TGs H Ps ∧ ∀ H2, Kc Ps H H2 → Q (.bl (riseB zs)) H2
theorem map_at {zs : List Str} {i : Nat} {v : V} (h : (zs.map V.str)[i]? = some v) : ∃ z, zs[i]? = some z ∧ v = .str z := by
  rw [List.getElem?_map] at h
  obtain ⟨z, hz, e⟩ := Option.map_eq_some_iff.mp h
  exact ⟨z, hz, e.symm⟩
theorem rise_turns {Ps : List Addr} {J : It} {g : TG} {te : TE} {vs : List Nat} {σw : L2.St} {H2 : Hp} {Qt Qf : Hp → Prop} (zs : List Str) (hT : TGs H2 Ps) (hgo : ∀ i H, i < zs.length - 1 → Kc Ps H2 H → J.go i H) (hstop : ∀ H, Kc Ps H2 H → J.stop (zs.length - 1) H)
    (hy : ∀ i x H H', i < zs.length - 1 → Kc Ps H2 H → J.yld i H x H' → ∃ T a b, x = .ref T ∧ H T = none ∧ H' = upd H T (.tup [.str a, .str b]) ∧ zs[i]? = some a ∧ zs[i + 1]? = some b)
    (hs : ∀ (T : Addr) (a b : Str) (H : Hp), H T = some (.tup [.str a, .str b]) → ∀ (Q' : VK) (B : Hp → Prop), Q' (.bl (decide (a.cps.toList < b.cps.toList))) H → g (.ref T) σw H fun σ2 H3 => wipe σ2 vs = σw ∧ tYes σ2 H3 fun b H4 => if b = true then te σ2 H4 Q' else B H4)
    (q : ∀ H, Kc Ps H2 H → if riseB zs = true then Qt H else Qf H) : ∃ W : Nat → Nat → Hp → Prop, (∃ m, W 0 m H2) ∧ AllTurns J g tYes te vs σw W Qt Qf := by
  refine all_kc (Ps := Ps) (J := J) (zs.length - 1) (fun i => match zs[i]?, zs[i + 1]? with | some a, some b => decide (a.cps.toList < b.cps.toList) | _, _ => true) hT hgo hstop (fun i x H H' hi k hyl Q' B hq => ?_) (fun ha H k => ?_) (fun i hi hf H k => ?_)
  · obtain ⟨T, a, b, rfl, nT, rfl, ea, eb⟩ := hy i x H H' hi k hyl
    have e : Same H (upd H T (.tup [.str a, .str b])) := same_upd nT
    refine hs T a b _ upd_same Q' B ?_
    have := hq _ (Kc.of_same k.tg e)
    simpa only [ea, eb] using this
  · have e : riseB zs = true := by
      rw [riseB_iff]
      intro i a b ea eb
      have hi : i + 1 < zs.length := by
        obtain ⟨h, _⟩ := List.getElem?_eq_some_iff.mp eb
        exact h
      have := ha i (by omega)
      simp only [ea, eb] at this
      exact of_decide_eq_true this
    have := q H k
    rwa [if_pos e] at this
  · have e : ¬ riseB zs = true := by
      intro ht
      rw [riseB_iff] at ht
      have e1 : zs[i]? = some (zs[i]'(by omega)) := List.getElem?_eq_getElem _
      have e2 : zs[i + 1]? = some (zs[i + 1]'(by omega)) := List.getElem?_eq_getElem _
      simp only [e1, e2] at hf
      exact of_decide_eq_false hf (ht i _ _ e1 e2)
    have := q H k
    rwa [if_neg e] at this
theorem ok_are_rising {f ca Pt : Addr} {Ps : List Addr} {fd : FuncData} (F : FnP K "are_rising" s_are_rising f fd) (hcd : fd.code = .ref ca) (TB : GxR.TabB base mg ca Pt) (iP : Pt ∈ Ps) (m_all : mg "all" = none) (m_zip : mg "zip" = none) : FnOk P w K mg base CX0 5 f fd ["names"] (spRise Ps) := by
  refine okC F sc_are_rising (fun vs H Q E h => ?_) (fun A outer s H vs Q E hr h => ?_)
  · obtain ⟨p, zs, rfl, _⟩ := h; rfl
  obtain ⟨p, zs, rfl, hp, hT, q⟩ := h
  refine ⟨_, PSs.nox (pss_one (ps_ret (pe_all (k := 0) (own := [("one", 1), ("other", 2)]) (g := gTup K 2 (gCons (gName 1) (gCons (gName 2) gNil))) (hr.mono (by decide)) (by rfl) m_all TB hcd (by rfl) sc_are_rising.nd (pi_zipE K (by rfl) m_zip (pa_cons (pv 0) (pa_cons (pe_slice (SlR.or (sl_tupE K) (sl_listE K)) (pv 0) (po_some pe_int) po_none) pa_nil))) (blkOk_by (own := [("one", 1), ("other", 2)]) (N := ["names", "one", "other"]) (sc := defScope s_are_rising) (by decide +kernel)) ⟨rfl, by decide +kernel, rfl⟩ (fun _ _ _ _ _ _ _ hr => (pg_tup rfl (pgs_cons (pg_name (i := 1) sc_are_rising.nd rfl (.inl rfl)) (pgs_cons (pg_name (i := 2) sc_are_rising.nd rfl (.inl rfl)) pgs_nil)))) (fun _ _ _ _ _ _ _ hr => pts_nil) (fun _ _ _ _ _ _ _ hr => (pe_cmpR op_lt_str (pv 1) (pv 2) (nomark _))) (fun _ => rfl)))), ?_⟩
  walk_at "zz"
  refine z_zipA (K := K) ?_
  walk_at "zz"
  have el : ∀ i, i < zs.length - 1 → ∃ a b, zs[i]? = some a ∧ zs[i + 1]? = some b := fun i hi => ⟨zs[i]'(by omega), zs[i + 1]'(by omega), List.getElem?_eq_getElem _, List.getElem?_eq_getElem _⟩
  have ed : (zs.map V.str).drop 1 = (zs.drop 1).map V.str := by rw [List.map_drop]
  have dr : ∀ i, (zs.drop 1)[i]? = zs[i + 1]? := fun i => by rw [List.getElem?_drop, Nat.add_comm]
  rcases hp with hp | hp
  · refine .inl (z_slT hp (fun p1 H1 e1 h1 => ?_))
    rw [show cutV (zs.map V.str) (some 1) none = (zs.drop 1).map V.str from (cutV_frm _ 1).trans ed] at h1
    walk_at "zz"
    refine ⟨p, p1, _, _, rfl, .inr ⟨SqT.of (e1 _ _ hp), SqT.of h1, tg_same (hT _ iP) e1, fun H2 T2 => ?_⟩⟩
    have c1 := Kc.of_same hT e1
    have c2 := c1.trans (Kc.of_tab c1.tg iP T2)
    have hp2 := c2.kp.tup hp
    have h2 := (Kc.of_tab c1.tg iP T2).kp.tup h1
    refine rise_turns zs c2.tg (fun i H3 hi k3 => ?_) (fun H3 k3 => ?_) (fun i x H3 H3' hi k3 hy => ?_) (fun T a b H3 h3 Q' B hq => ?_) (fun H3 k3 => ite_bl (q _ (c2.trans k3)))
    · obtain ⟨a, b, ea, eb⟩ := el i hi
      exact ⟨_, _, .str a, .str b, SqT.of (k3.kp.tup hp2), SqT.of (k3.kp.tup h2), by rw [List.getElem?_map, ea]; rfl, by rw [List.getElem?_map, dr, eb]; rfl⟩
    · exact ⟨_, _, SqT.of (k3.kp.tup hp2), SqT.of (k3.kp.tup h2), .inr (by rw [List.length_map, List.length_drop]; exact Nat.le_refl _)⟩
    · obtain ⟨T, x', y', rfl, nT, rfl, f1, f2⟩ := hy
      obtain ⟨a, ea, rfl⟩ := map_at (f1 _ (SqT.of (k3.kp.tup hp2)))
      obtain ⟨b, eb, rfl⟩ := map_at (f2 _ (SqT.of (k3.kp.tup h2)))
      rw [dr] at eb
      exact ⟨T, a, b, rfl, nT, rfl, ea, eb⟩
    · walk_at "zz"
      refine z_gTup (SqT.of h3) rfl ?_
      walk_at "zz"
      refine ⟨rfl, ?_⟩
      walk_at "zz"
      exact ⟨a, b, rfl, rfl, hq⟩
  · refine .inr (z_slL (SqL.of hp) (fun p1 H1 n1 e1 h1 => ?_))
    rw [show cutV (zs.map V.str) (some 1) none = (zs.drop 1).map V.str from (cutV_frm _ 1).trans ed] at h1
    walk_at "zz"
    refine ⟨p, p1, _, _, rfl, .inl ⟨SqL.of (e1 _ _ hp), SqL.of h1, tg_same (hT _ iP) e1, fun H2 T2 => ?_⟩⟩
    have c1 := Kc.of_same hT e1
    have c2 := c1.trans (Kc.of_tab c1.tg iP T2)
    have hp2 := c2.kp.lst hp
    have h2 := (Kc.of_tab c1.tg iP T2).kp.lst h1
    refine rise_turns zs c2.tg (fun i H3 hi k3 => ?_) (fun H3 k3 => ?_) (fun i x H3 H3' hi k3 hy => ?_) (fun T a b H3 h3 Q' B hq => ?_) (fun H3 k3 => ite_bl (q _ (c2.trans k3)))
    · obtain ⟨a, b, ea, eb⟩ := el i hi
      exact ⟨_, _, .str a, .str b, SqL.of (k3.kp.lst hp2), SqL.of (k3.kp.lst h2), by rw [List.getElem?_map, ea]; rfl, by rw [List.getElem?_map, dr, eb]; rfl⟩
    · exact ⟨_, _, SqL.of (k3.kp.lst hp2), SqL.of (k3.kp.lst h2), .inr (by rw [List.length_map, List.length_drop]; exact Nat.le_refl _)⟩
    · obtain ⟨T, x', y', rfl, nT, rfl, f1, f2⟩ := hy
      obtain ⟨a, ea, rfl⟩ := map_at (f1 _ (SqL.of (k3.kp.lst hp2)))
      obtain ⟨b, eb, rfl⟩ := map_at (f2 _ (SqL.of (k3.kp.lst h2)))
      rw [dr] at eb
      exact ⟨T, a, b, rfl, nT, rfl, ea, eb⟩
    · walk_at "zz"
      refine z_gTup (SqT.of h3) rfl ?_
      walk_at "zz"
      refine ⟨rfl, ?_⟩
      walk_at "zz"
      exact ⟨a, b, rfl, rfl, hq⟩
theorem z_notInST {H : Hp} {Q : VK} {p : Addr} {zs : List Str} {z : Str} (h : H p = some (.tup (zs.map V.str))) (q : Q (.bl (!decide (z ∈ zs))) H) : rIn K true (.str z) (.ref p) H Q :=
  ⟨p, _, rfl, .inr (SqT.of h), rfl, by rw [List.all_eq_true]; intro x hx; obtain ⟨y, _, rfl⟩ := List.mem_map.mp hx; rfl, by
    rw [show (if true = true then !inV (V.str z) (zs.map V.str) else inV (V.str z) (zs.map V.str)) = !decide (z ∈ zs) from congrArg (!·) (inV_str z zs)]
    exact q⟩
theorem z_inST {H : Hp} {Q : VK} {p : Addr} {zs : List Str} {z : Str} (h : H p = some (.tup (zs.map V.str))) (q : Q (.bl (decide (z ∈ zs))) H) : rIn K false (.str z) (.ref p) H Q :=
  ⟨p, _, rfl, .inr (SqT.of h), rfl, by rw [List.all_eq_true]; intro x hx; obtain ⟨y, _, rfl⟩ := List.mem_map.mp hx; rfl, by
    rw [show (if false = true then !inV (V.str z) (zs.map V.str) else inV (V.str z) (zs.map V.str)) = decide (z ∈ zs) from inV_str z zs]
    exact q⟩
theorem name_str {d : PyData} (h : nameD d = true) : d = .str (strD d) := by
  cases d <;> first | rfl | cases h
theorem DaAll.strs {H : Hp} : ∀ {xs : List V} {ds : List PyData}, DaAll H xs ds → ds.all nameD = true → xs = (ds.map strD).map V.str
  | _, _, .nil, _ => rfl
  | _, _, .cons (d := d) a g, h => by
    rw [List.all_cons, Bool.and_eq_true] at h
    rw [List.map_cons, List.map_cons, ← DaAll.strs g h.2]
    rw [name_str h.1] at a
    rw [a.strE.1]
def spOth (Ps : List Addr) : Sp := fun vs H Q _ => ∃ (v : V) (d : PyData) (own : Str), vs = [v, .str own] ∧ Da H v d ∧ TGs H Ps ∧ ∀ H2, Kc Ps H H2 → Q (.bl (othersD own d)) H2
theorem ok_are_others {f ca Pt Pn : Addr} {Ps : List Addr} {fd : FuncData} (F : FnP K "are_others" s_are_others f fd) (hcd : fd.code = .ref ca) (TB : GxR.TabB base mg ca Pt) (iP : Pt ∈ Ps) (iN : Pn ∈ Ps) (m_all : mg "all" = none) (m_isinstance : mg "isinstance" = none) (m_tuple : mg "tuple" = none) (h_is_name : Has P w K mg base 5 "is_name" ["thing"] (spIsName K Pn)) (h_are_rising : Has P w K mg base 5 "are_rising" ["names"] (spRise Ps)) : FnOk P w K mg base CX0 10 f fd ["thing", "own"] (spOth Ps) := by
  refine okC F sc_are_others (fun vs H Q E h => ?_) (fun A outer s H vs Q E hr h => ?_)
  · obtain ⟨v, d, own, rfl, _⟩ := h; rfl
  obtain ⟨v, d, own, rfl, hv, hT, q⟩ := h
  refine ⟨_, PSs.nox (pss_cons (ps_if (PW.pt (pw_or (pt_not (pt_val (pe_callB (call_isiE K) (by rfl) m_isinstance (by decide +kernel) (pa_cons (pv 0) (pa_cons (pe_bltn (v := .ty "tuple") (by rfl) m_tuple (by decide +kernel) rfl) pa_nil))))) (pw_or1 (pt_not (pt_val (pe_all (k := 5) (own := [("name", 2)]) (g := gName 2) (hr.mono (by decide)) (by rfl) m_all TB hcd (by rfl) sc_are_others.nd (pi_tupE K (pv 0)) (blkOk_by (own := [("name", 2)]) (N := ["thing", "own", "name"]) (sc := defScope s_are_others) (by decide +kernel)) ⟨rfl, by decide +kernel, rfl⟩ (fun _ _ _ _ _ _ _ hr => (pg_name (i := 2) sc_are_others.nd rfl (.inl rfl))) (fun _ _ _ _ _ _ _ hr => pts_nil) (fun _ _ _ _ _ _ _ hr => (pe_callH h_is_name (hr.mono (by decide)) (by rfl) (pa_cons (pv 2) pa_nil))) (fun _ => rfl)))))))
    (pss_one (ps_ret pe_bl))
    pss_nil)
  (pss_one (ps_ret (pe_and (pe_cmpR (op_notInE K) (pv 1) (pv 0) (by rfl)) (pe_one (pe_callH h_are_rising (hr.mono (by decide)) (by rfl) (pa_cons (pv 0) pa_nil))))))), ?_⟩
  walk_at "zz"
  unfold othersD at q
  cases ht : isTupD d with
  | false =>
    rw [ht] at q
    refine z_isi (Da.noT (K := K) hv ht).1 (Da.noT (K := K) hv ht).2 ?_
    walk_at "zz"
    exact q H (Kc.refl hT)
  | true =>
    rw [ht, Bool.true_and] at q
    obtain ⟨ds, rfl⟩ := isT ht
    obtain ⟨p, xs, rfl, hp, g⟩ := hv.tupE
    refine z_isi (n := "tuple") (k := true) (.base (.tup hp)) (by decide +kernel) ?_
    walk_at "zz"
    refine ⟨_, rfl, p, rfl, ⟨_, SqT.of hp⟩, hT _ iP, fun H2 T2 => ?_⟩
    have c2 := Kc.of_tab hT iP T2
    refine all_da nameD c2.tg (c2.kp.tup hp) (DaAll.mv (KD.of_kp c2.kp) g) (fun x d H3 _ hd k3 Q' B hq => ?_) (fun H3 k3 => ?_)
    · refine ⟨rfl, ?_⟩
      walk_at "zz"
      exact hd.name (k3.tg _ iN) fun H4 T4 => hq _ (Kc.of_tab k3.tg iN T4)
    have c3 := c2.trans k3
    have hq := fun H4 k4 => q H4 (c3.trans k4)
    cases ha : ds.all nameD with
    | false =>
      rw [show (itD (.tuple ds)).all nameD = false from ha] at hq
      simp only [Bool.false_eq_true, if_false]
      walk_at "zz"
      exact hq _ (Kc.refl c3.tg)
    | true =>
      rw [show (itD (.tuple ds)).all nameD = true from ha] at hq
      simp only [if_true]
      have hp3 := c3.kp.tup hp
      rw [g.strs ha] at hp3
      walk_at "zz"
      refine z_notInST hp3 ?_
      by_cases ho : own ∈ ds.map strD
      · have hq := hq _ (Kc.refl c3.tg)
        rw [show decide (own ∈ (itD (.tuple ds)).map strD) = true from decide_eq_true ho] at hq
        rw [decide_eq_true ho]
        walk_at "zz"
        exact hq
      · rw [show decide (own ∈ (itD (.tuple ds)).map strD) = false from decide_eq_false ho] at hq
        rw [decide_eq_false ho]
        walk_at "zz"
        exact ⟨p, _, rfl, .inl hp3, c3.tg, hq⟩
theorem tup_len {n : Nat} {d : PyData} (h : tupD n d = false) (ds : List PyData) (hl : ds.length = n) : d ≠ .tuple ds := fun e => by
  subst e
  rw [show tupD n (.tuple ds) = true from decide_eq_true hl] at h
  cases h
theorem nums_T {d : PyData} (h : numsD d = true) : ∃ ds, d = .tuple ds := by
  cases d <;> first | exact ⟨_, rfl⟩ | cases h
theorem ok_is_entry {f Pn Pu : Addr} {Ps : List Addr} {fd : FuncData} (F : FnP K "is_entry" s_is_entry f fd) (iN : Pn ∈ Ps) (iU : Pu ∈ Ps) (m_len : mg "len" = none) (h_is_tuple_of : Has P w K mg base 1 "is_tuple_of" ["thing", "many"] spTupOf) (h_is_name : Has P w K mg base 5 "is_name" ["thing"] (spIsName K Pn)) (h_is_count : Has P w K mg base 2 "is_count" ["thing", "least"] spCount) (h_is_numbers : Has P w K mg base 7 "is_numbers" ["thing"] (spNums K Pu)) (h_are_others : Has P w K mg base 10 "are_others" ["thing", "own"] (spOth Ps)) : FnOk P w K mg base CX0 11 f fd ["thing", "many"] (spTn Ps entryD) := by
  refine F.ok sc_is_entry (fun vs H Q E h => ?_) (fun cdv A outer s H vs Q E hr h => ?_)
  · obtain ⟨v, d, n, rfl, _⟩ := h; rfl
  obtain ⟨v, d, n, rfl, hv, hT, q⟩ := h
  refine ⟨_, PSs.nox (pss_cons (ps_if (pt_not (pt_val (pe_callH h_is_tuple_of (hr.mono (by decide)) (by rfl) (pa_cons (pv 0) (pa_cons pe_int pa_nil)))))
    (pss_one (ps_ret pe_bl))
    pss_nil)
  (pss_cons (ps_asg (pv 0) (pg_tup rfl (pgs_cons (pg_name (i := 2) sc_is_entry.nd rfl (.inl rfl)) (pgs_cons (pg_name (i := 3) sc_is_entry.nd rfl (.inl rfl)) (pgs_cons (pg_name (i := 4) sc_is_entry.nd rfl (.inl rfl)) (pgs_cons (pg_name (i := 5) sc_is_entry.nd rfl (.inl rfl)) (pgs_cons (pg_name (i := 6) sc_is_entry.nd rfl (.inl rfl)) pgs_nil)))))))
  (pss_cons (ps_if (PW.pt (pw_or (pt_not (pt_val (pe_callH h_is_name (hr.mono (by decide)) (by rfl) (pa_cons (pv 2) pa_nil)))) (pw_or (pt_not (pt_val (pe_callH h_is_count (hr.mono (by decide)) (by rfl) (pa_cons (pv 3) (pa_cons pe_int pa_nil))))) (pw_or1 (pt_not (pt_val (pe_callH h_is_count (hr.mono (by decide)) (by rfl) (pa_cons (pv 4) (pa_cons pe_int pa_nil)))))))))
    (pss_one (ps_ret pe_bl))
    pss_nil)
  (pss_one (ps_ret (pe_and (pe_callH h_is_numbers (hr.mono (by decide)) (by rfl) (pa_cons (pv 5) pa_nil)) (pe_and (pe_cmpR op_eq (pe_callB (call_lenE K) (by rfl) m_len (by decide +kernel) (pa_cons (pv 5) pa_nil)) (pv 1) (nomark _)) (pe_one (pe_callH h_are_others (hr.mono (by decide)) (by rfl) (pa_cons (pv 6) (pa_cons (pv 2) pa_nil))))))))))), ?_⟩
  walk_at "zz"
  refine ⟨v, d, 5, rfl, hv, ?_⟩
  cases ht : tupD 5 d with
  | false =>
    have e : entryD n d = false := by
      unfold entryD
      split
      · exact absurd rfl (tup_len ht _ rfl)
      · rfl
    rw [e] at q
    walk_at "zz"
    exact q H (Kc.refl hT)
  | true =>
    obtain ⟨ds, rfl, hl⟩ := tup_isT ht
    match ds, hl with
    | [d1, d2, d3, d4, d5], _ =>
    obtain ⟨p, xs, rfl, hp, g⟩ := hv.tupE
    rcases g with _ | ⟨a1, g⟩
    rcases g with _ | ⟨a2, g⟩
    rcases g with _ | ⟨a3, g⟩
    rcases g with _ | ⟨a4, g⟩
    rcases g with _ | ⟨a5, g⟩
    cases g
    have q : ∀ H2, Kc Ps H H2 → Q (.bl (nameD d1 && (countD 1 d2 && (countD 1 d3 && (numsD d4 && (decide (lenD d4 = n) && othersD (strD d1) d5)))))) H2 := q
    walk_at "zz"
    refine z_gTup (SqT.of hp) rfl ?_
    walk_at "zz"
    refine a1.name (hT _ iN) fun H2 T2 => ?_
    have c2 := Kc.of_tab hT iN T2
    have k2 := KD.of_kp c2.kp
    cases h1 : nameD d1 with
    | false =>
      rw [h1] at q
      walk_at "zz"
      exact q _ c2
    | true =>
    rw [h1] at q
    walk_at "zz"
    refine ⟨_, d2, 1, rfl, a2.mv k2, ?_⟩
    cases h2 : countD 1 d2 with
    | false =>
      rw [h2] at q
      walk_at "zz"
      exact q _ c2
    | true =>
    rw [h2] at q
    walk_at "zz"
    refine ⟨_, d3, 1, rfl, a3.mv k2, ?_⟩
    cases h3 : countD 1 d3 with
    | false =>
      rw [h3] at q
      walk_at "zz"
      exact q _ c2
    | true =>
    rw [h3] at q
    walk_at "zz"
    refine (a4.mv k2).nums (c2.tg _ iU) fun H3 T3 => ?_
    have c3 := c2.trans (Kc.of_tab c2.tg iU T3)
    have k3 := KD.of_kp c3.kp
    cases h4 : numsD d4 with
    | false =>
      rw [h4] at q
      walk_at "zz"
      exact q _ c3
    | true =>
    rw [h4] at q
    obtain ⟨us, rfl⟩ := nums_T h4
    obtain ⟨pu, ux, rfl, hu, gu⟩ := a4.tupE
    have e1 := name_str h1
    rw [e1] at a1
    obtain ⟨rfl, _, _⟩ := a1.strE
    walk_at "zz"
    refine z_lenT (k3.t _ _ hu) ?_
    walk_at "zz"
    rw [gu.len]
    by_cases h5 : us.length = n
    · rw [show decide (lenD (.tuple us) = n) = true from decide_eq_true h5] at q
      rw [decide_eq_true (show (us.length : Int) = (n : Int) by omega)]
      walk_at "zz"
      exact ⟨_, d5, _, rfl, a5.mv k3, c3.tg, fun H4 k4 => q _ (c3.trans k4)⟩
    · rw [show decide (lenD (.tuple us) = n) = false from decide_eq_false h5] at q
      rw [decide_eq_false (show ¬ (us.length : Int) = (n : Int) by omega)]
      walk_at "zz"
      exact q _ c3
theorem entry_tup {n : Nat} {d : PyData} (h : entryD n d = true) : ∃ z l v u o, d = .tuple [.str z, l, v, u, o] ∧ nmB z = true := by
  unfold entryD at h
  split at h
  · rename_i z l v u o
    rw [Bool.and_eq_true] at h
    rw [name_str h.1]
    exact ⟨_, _, _, _, _, rfl, by have := h.1; rw [name_str h.1] at this; exact this⟩
  · cases h
def spRoll (Ps : List Addr) : Sp := fun vs H Q _ => ∃ (v : V) (d : PyData) (n : Nat), vs = [v, .int (n : Int)] ∧ Da H v d ∧ (itD d).length ≤ 1000 ∧ TGs H Ps ∧ ∀ H2, Kc Ps H H2 → Q (.bl (rollD n d)) H2
theorem ok_is_roll {f ca Pt : Addr} {Ps : List Addr} {fd : FuncData} (F : FnP K "is_roll" s_is_roll f fd) (hcd : fd.code = .ref ca) (TB : GxR.TabB base mg ca Pt) (iP : Pt ∈ Ps) (m_all : mg "all" = none) (m_isinstance : mg "isinstance" = none) (m_tuple : mg "tuple" = none) (h_is_entry : Has P w K mg base 11 "is_entry" ["thing", "many"] (spTn Ps entryD)) (h_are_rising : Has P w K mg base 5 "are_rising" ["names"] (spRise Ps)) : FnOk P w K mg base CX0 16 f fd ["thing", "many"] (spRoll Ps) := by
  refine okC F sc_is_roll (fun vs H Q E h => ?_) (fun A outer s H vs Q E hr h => ?_)
  · obtain ⟨v, d, n, rfl, _⟩ := h; rfl
  obtain ⟨v, d, n, rfl, hv, hsz, hT, q⟩ := h
  refine ⟨_, PSs.nox (pss_cons (ps_if (PW.pt (pw_or (pt_not (pt_val (pe_callB (call_isiE K) (by rfl) m_isinstance (by decide +kernel) (pa_cons (pv 0) (pa_cons (pe_bltn (v := .ty "tuple") (by rfl) m_tuple (by decide +kernel) rfl) pa_nil))))) (pw_or1 (pt_not (pt_val (pe_all (k := 11) (own := [("entry", 2)]) (g := gName 2) (hr.mono (by decide)) (by rfl) m_all TB hcd (by rfl) sc_is_roll.nd (pi_tupE K (pv 0)) (blkOk_by (own := [("entry", 2)]) (N := ["thing", "many", "entry"]) (sc := defScope s_is_roll) (by decide +kernel)) ⟨rfl, by decide +kernel, rfl⟩ (fun _ _ _ _ _ _ _ hr => (pg_name (i := 2) sc_is_roll.nd rfl (.inl rfl))) (fun _ _ _ _ _ _ _ hr => pts_nil) (fun _ _ _ _ _ _ _ hr => (pe_callH h_is_entry (hr.mono (by decide)) (by rfl) (pa_cons (pv 2) (pa_cons (pv 1) pa_nil)))) (fun _ => rfl)))))))
    (pss_one (ps_ret pe_bl))
    pss_nil)
  (pss_one (ps_ret (pe_callH h_are_rising (hr.mono (by decide)) (by rfl) (pa_cons (pe_lc (own := [("entry", 2)]) (g := (gName 2)) (by rfl) sc_is_roll.nd (pi_tupE K (pv 0)) (blkOk_by (own := [("entry", 2)]) (N := ["thing", "many", "entry"]) (sc := defScope s_is_roll) (by decide +kernel)) (fun _ _ _ _ _ => (pg_name (i := 2) sc_is_roll.nd rfl (.inl rfl))) (fun _ _ _ _ _ => pts_nil) (fun _ _ _ _ _ => (pe_ix (ix_tupE K) (pv 2) pe_int (fun _ _ => rfl)))) pa_nil))))), ?_⟩
  walk_at "zz"
  unfold rollD at q
  cases ht : isTupD d with
  | false =>
    rw [ht] at q
    refine z_isi (Da.noT (K := K) hv ht).1 (Da.noT (K := K) hv ht).2 ?_
    walk_at "zz"
    exact q H (Kc.refl hT)
  | true =>
    rw [ht, Bool.true_and] at q
    obtain ⟨ds, rfl⟩ := isT ht
    obtain ⟨p, xs, rfl, hp, g⟩ := hv.tupE
    refine z_isi (n := "tuple") (k := true) (.base (.tup hp)) (by decide +kernel) ?_
    walk_at "zz"
    refine ⟨_, rfl, p, rfl, ⟨_, SqT.of hp⟩, hT _ iP, fun H2 T2 => ?_⟩
    have c2 := Kc.of_tab hT iP T2
    refine all_da (entryD n) c2.tg (c2.kp.tup hp) (DaAll.mv (KD.of_kp c2.kp) g) (fun x d H3 _ hd k3 Q' B hq => ?_) (fun H3 k3 => ?_)
    · refine ⟨rfl, ?_⟩
      walk_at "zz"
      exact ⟨x, d, n, rfl, hd, k3.tg, hq⟩
    have c3 := c2.trans k3
    have hq := fun H4 k4 => q H4 (c3.trans k4)
    cases ha : ds.all (entryD n) with
    | false =>
      rw [show (itD (.tuple ds)).all (entryD n) = false from ha] at hq
      simp only [Bool.false_eq_true, if_false]
      walk_at "zz"
      exact hq _ (Kc.refl c3.tg)
    | true =>
      rw [show (itD (.tuple ds)).all (entryD n) = true from ha, Bool.true_and] at hq
      simp only [if_true]
      have hp3 := c3.kp.tup hp
      have g3 := DaAll.mv (KD.of_kp c3.kp) g
      walk_at "zz"
      refine ⟨_, rfl, p, rfl, ⟨_, SqT.of hp3⟩, fun D nD => lc_tup (xs := xs) (fun i H' => Same H3 H' ∧ H' D = some (.lst ((((ds.map fun x => strD (firstD x)).take i)).map V.str))) ⟨same_upd nD, upd_same⟩ (fun i H' _ h => SqT.of (h.1 _ _ hp3)) ?_ ?_⟩
      · rintro i x H4 hx ⟨e4, hD⟩
        obtain ⟨d, hd, da⟩ := g3.get hx
        rw [List.all_eq_true] at ha
        obtain ⟨z, l, v, u, o, rfl, _⟩ := entry_tup (ha d (List.mem_of_getElem? hd))
        obtain ⟨pe, ex, rfl, he, ge⟩ := (da.mv (KD.of_same e4)).tupE
        rcases ge with _ | ⟨a1, ge⟩
        obtain ⟨rfl, _, _⟩ := a1.strE
        refine ⟨rfl, ?_⟩
        walk_at "zz"
        refine z_ixT (v := .str z) (SqT.of he) (show atI _ ((0 : Nat) : Int) = some (V.str z) from atI_nat rfl) ?_
        have hi : i < ds.length := (List.getElem?_eq_some_iff.mp hd).1
        refine ⟨_, hD, small1000 (by rw [List.length_map, List.length_take, List.length_map]; have : ds.length ≤ 1000 := hsz; omega), fun b o hb => by rw [upd_ne (ne_of_none hb nD)]; exact e4 _ _ hb, ?_⟩
        rw [upd_same, List.take_add_one, List.getElem?_map, hd, List.map_append]
        rfl
      · rintro H4 ⟨e4, hD⟩
        rw [g.len, List.take_of_length_le (by rw [List.length_map]; exact Nat.le_refl _)] at hD
        walk_at "zz"
        have c4 := Kc.of_same c3.tg e4
        exact ⟨D, _, rfl, .inr hD, c4.tg, fun H5 k5 => hq _ (c4.trans k5)⟩
theorem ok_is_era {f Pn : Addr} {Ps : List Addr} {fd : FuncData} (F : FnP K "is_era" s_is_era f fd) (iN : Pn ∈ Ps) (h_is_tuple_of : Has P w K mg base 1 "is_tuple_of" ["thing", "many"] spTupOf) (h_is_name : Has P w K mg base 5 "is_name" ["thing"] (spIsName K Pn)) (h_is_count : Has P w K mg base 2 "is_count" ["thing", "least"] spCount) : FnOk P w K mg base CX0 6 f fd ["thing"] (spT0 Ps eraD) := by
  refine F.ok sc_is_era (fun vs H Q E h => ?_) (fun cdv A outer s H vs Q E hr h => ?_)
  · obtain ⟨v, d, rfl, _⟩ := h; rfl
  obtain ⟨v, d, rfl, hv, hT, q⟩ := h
  refine ⟨_, PSs.nox (pss_one (ps_ret (pe_and (pe_callH h_is_tuple_of (hr.mono (by decide)) (by rfl) (pa_cons (pv 0) (pa_cons pe_int pa_nil))) (pe_and (pe_callH h_is_name (hr.mono (by decide)) (by rfl) (pa_cons (pe_ix (ix_tupE K) (pv 0) pe_int (fun _ _ => rfl)) pa_nil)) (pe_one (pe_callH h_is_count (hr.mono (by decide)) (by rfl) (pa_cons (pe_ix (ix_tupE K) (pv 0) pe_int (fun _ _ => rfl)) (pa_cons pe_int pa_nil)))))))), ?_⟩
  walk_at "zz"
  refine ⟨v, d, 2, rfl, hv, ?_⟩
  cases ht : tupD 2 d with
  | false =>
    have e : eraD d = false := by
      unfold eraD
      split
      · exact absurd rfl (tup_len ht _ rfl)
      · rfl
    rw [e] at q
    walk_at "zz"
    exact q H (Kc.refl hT)
  | true =>
    obtain ⟨d1, d2, rfl⟩ := tup2 ht
    obtain ⟨p, xs, rfl, hp, g⟩ := hv.tupE
    rcases g with _ | ⟨a1, g⟩
    rcases g with _ | ⟨a2, g⟩
    cases g
    have q : ∀ H2, Kc Ps H H2 → Q (.bl (nameD d1 && countD 0 d2)) H2 := q
    walk_at "zz"
    refine z_ixT (SqT.of hp) rfl ?_
    walk_at "zz"
    refine a1.name (hT _ iN) fun H2 T2 => ?_
    have c2 := Kc.of_tab hT iN T2
    have k2 := KD.of_kp c2.kp
    cases h1 : nameD d1 with
    | false =>
      rw [h1] at q
      walk_at "zz"
      exact q _ c2
    | true =>
    rw [h1] at q
    walk_at "zz"
    refine z_ixT (SqT.of (c2.kp.tup hp)) rfl ?_
    walk_at "zz"
    exact ⟨_, d2, 0, rfl, a2.mv k2, q _ c2⟩
theorem ok_are_eras {f ca Pt : Addr} {Ps : List Addr} {fd : FuncData} (F : FnP K "are_eras" s_are_eras f fd) (hcd : fd.code = .ref ca) (TB : GxR.TabB base mg ca Pt) (iP : Pt ∈ Ps) (m_all : mg "all" = none) (m_isinstance : mg "isinstance" = none) (m_tuple : mg "tuple" = none) (h_is_era : Has P w K mg base 6 "is_era" ["thing"] (spT0 Ps eraD)) : FnOk P w K mg base CX0 11 f fd ["thing"] (spT0 Ps (allT eraD)) := by
  refine okC F sc_are_eras (fun vs H Q E h => ?_) (fun A outer s H vs Q E hr h => ?_)
  · obtain ⟨v, d, rfl, _⟩ := h; rfl
  obtain ⟨v, d, rfl, hv, hT, q⟩ := h
  refine ⟨_, PSs.nox (pss_one (ps_ret (pe_and (pe_callB (call_isiE K) (by rfl) m_isinstance (by decide +kernel) (pa_cons (pv 0) (pa_cons (pe_bltn (v := .ty "tuple") (by rfl) m_tuple (by decide +kernel) rfl) pa_nil))) (pe_one (pe_all (k := 6) (own := [("era", 1)]) (g := gName 1) (hr.mono (by decide)) (by rfl) m_all TB hcd (by rfl) sc_are_eras.nd (pi_tupE K (pv 0)) (blkOk_by (own := [("era", 1)]) (N := ["thing", "era"]) (sc := defScope s_are_eras) (by decide +kernel)) ⟨rfl, by decide +kernel, rfl⟩ (fun _ _ _ _ _ _ _ hr => (pg_name (i := 1) sc_are_eras.nd rfl (.inl rfl))) (fun _ _ _ _ _ _ _ hr => pts_nil) (fun _ _ _ _ _ _ _ hr => (pe_callH h_is_era (hr.mono (by decide)) (by rfl) (pa_cons (pv 1) pa_nil))) (fun _ => rfl)))))), ?_⟩
  walk_at "zz"
  unfold allT at q
  cases ht : isTupD d with
  | false =>
    rw [ht] at q
    refine z_isi (Da.noT (K := K) hv ht).1 (Da.noT (K := K) hv ht).2 ?_
    walk_at "zz"
    exact q H (Kc.refl hT)
  | true =>
    rw [ht] at q
    obtain ⟨ds, rfl⟩ := isT ht
    obtain ⟨p, xs, rfl, hp, g⟩ := hv.tupE
    refine z_isi (n := "tuple") (k := true) (.base (.tup hp)) (by decide +kernel) ?_
    walk_at "zz"
    refine ⟨_, rfl, p, rfl, ⟨_, SqT.of hp⟩, hT _ iP, fun H2 T2 => ?_⟩
    have c2 := Kc.of_tab hT iP T2
    refine all_da eraD c2.tg (c2.kp.tup hp) (DaAll.mv (KD.of_kp c2.kp) g) (fun x d H3 _ hd k3 Q' B hq => ?_) (fun H3 k3 => ite_bl (q _ (c2.trans k3)))
    refine ⟨rfl, ?_⟩
    walk_at "zz"
    exact ⟨x, d, rfl, hd, k3.tg, hq⟩
theorem ok_is_account {f Pn : Addr} {Ps : List Addr} {fd : FuncData} (F : FnP K "is_account" s_is_account f fd) (iN : Pn ∈ Ps) (h_is_tuple_of : Has P w K mg base 1 "is_tuple_of" ["thing", "many"] spTupOf) (h_is_name : Has P w K mg base 5 "is_name" ["thing"] (spIsName K Pn)) (h_is_stamp : Has P w K mg base 3 "is_stamp" ["thing"] spStamp) (h_is_count : Has P w K mg base 2 "is_count" ["thing", "least"] spCount) (h_is_row : Has P w K mg base 8 "is_row" ["thing", "parts"] (spTn Ps rowD)) : FnOk P w K mg base CX0 9 f fd ["thing", "parts"] (spTn Ps accD) := by
  refine F.ok sc_is_account (fun vs H Q E h => ?_) (fun cdv A outer s H vs Q E hr h => ?_)
  · obtain ⟨v, d, n, rfl, _⟩ := h; rfl
  obtain ⟨v, d, n, rfl, hv, hT, q⟩ := h
  refine ⟨_, PSs.nox (pss_cons (ps_if (pt_not (pt_val (pe_callH h_is_tuple_of (hr.mono (by decide)) (by rfl) (pa_cons (pv 0) (pa_cons pe_int pa_nil)))))
    (pss_one (ps_ret pe_bl))
    pss_nil)
  (pss_cons (ps_asg (pv 0) (pg_tup rfl (pgs_cons (pg_name (i := 2) sc_is_account.nd rfl (.inl rfl)) (pgs_cons (pg_name (i := 3) sc_is_account.nd rfl (.inl rfl)) (pgs_cons (pg_name (i := 4) sc_is_account.nd rfl (.inl rfl)) (pgs_cons (pg_name (i := 5) sc_is_account.nd rfl (.inl rfl)) (pgs_cons (pg_name (i := 6) sc_is_account.nd rfl (.inl rfl)) (pgs_cons (pg_name (i := 7) sc_is_account.nd rfl (.inl rfl)) pgs_nil))))))))
  (pss_cons (ps_if (PW.pt (pw_or (pt_not (pt_val (pe_callH h_is_name (hr.mono (by decide)) (by rfl) (pa_cons (pv 2) pa_nil)))) (pw_or1 (pt_not (PW.pt (pw_or (pt_cmpR op_isN1 (pv 3) pe_non (nomark _)) (pw_or1 (pt_val (pe_callH h_is_stamp (hr.mono (by decide)) (by rfl) (pa_cons (pv 3) pa_nil))))))))))
    (pss_one (ps_ret pe_bl))
    pss_nil)
  (pss_one (ps_ret (pe_and (pe_callH h_is_count (hr.mono (by decide)) (by rfl) (pa_cons (pv 4) (pa_cons pe_int pa_nil))) (pe_and (pe_callH h_is_row (hr.mono (by decide)) (by rfl) (pa_cons (pv 5) (pa_cons (pv 1) pa_nil))) (pe_and (pe_callH h_is_count (hr.mono (by decide)) (by rfl) (pa_cons (pv 6) (pa_cons pe_int pa_nil))) (pe_one (pe_callH h_is_row (hr.mono (by decide)) (by rfl) (pa_cons (pv 7) (pa_cons (pv 1) pa_nil)))))))))))), ?_⟩
  walk_at "zz"
  refine ⟨v, d, 6, rfl, hv, ?_⟩
  cases ht : tupD 6 d with
  | false =>
    have e : accD n d = false := by
      unfold accD
      split
      · exact absurd rfl (tup_len ht _ rfl)
      · rfl
    rw [e] at q
    walk_at "zz"
    exact q H (Kc.refl hT)
  | true =>
    obtain ⟨ds, rfl, hl⟩ := tup_isT ht
    match ds, hl with
    | [d1, d2, d3, d4, d5, d6], _ =>
    obtain ⟨p, xs, rfl, hp, g⟩ := hv.tupE
    rcases g with _ | ⟨a1, g⟩
    rcases g with _ | ⟨a2, g⟩
    rcases g with _ | ⟨a3, g⟩
    rcases g with _ | ⟨a4, g⟩
    rcases g with _ | ⟨a5, g⟩
    rcases g with _ | ⟨a6, g⟩
    cases g
    have q : ∀ H2, Kc Ps H H2 → Q (.bl (nameD d1 && (seenD d2 && (countD 0 d3 && (rowD n d4 && (countD 0 d5 && rowD n d6)))))) H2 := q
    walk_at "zz"
    refine z_gTup (SqT.of hp) rfl ?_
    walk_at "zz"
    refine a1.name (hT _ iN) fun H2 T2 => ?_
    have c2 := Kc.of_tab hT iN T2
    have k2 := KD.of_kp c2.kp
    cases h1 : nameD d1 with
    | false =>
      rw [h1] at q
      walk_at "zz"
      exact q _ c2
    | true =>
    rw [h1] at q
    walk_at "zz"
    refine ⟨rfl, ?_⟩
    by_cases hn : d2 = .none
    · subst hn
      cases a2.noneE
      rw [decide_eq_true rfl]
      have q : ∀ H2, Kc Ps H H2 → Q (.bl (countD 0 d3 && (rowD n d4 && (countD 0 d5 && rowD n d6)))) H2 := q
      walk_at "zz"
      refine ⟨_, d3, 0, rfl, a3.mv k2, ?_⟩
      cases h3 : countD 0 d3 with
      | false =>
        rw [h3] at q
        walk_at "zz"
        exact q _ c2
      | true =>
      rw [h3] at q
      walk_at "zz"
      refine ⟨_, d4, n, rfl, a4.mv k2, c2.tg, fun H3 k3 => ?_⟩
      have c3 := c2.trans k3
      have k3 := KD.of_kp c3.kp
      cases h4 : rowD n d4 with
      | false =>
        rw [h4] at q
        walk_at "zz"
        exact q _ c3
      | true =>
      rw [h4] at q
      walk_at "zz"
      refine ⟨_, d5, 0, rfl, a5.mv k3, ?_⟩
      cases h5 : countD 0 d5 with
      | false =>
        rw [h5] at q
        walk_at "zz"
        exact q _ c3
      | true =>
      rw [h5] at q
      walk_at "zz"
      exact ⟨_, d6, n, rfl, a6.mv k3, c3.tg, fun H4 k4 => q _ (c3.trans k4)⟩
    · rw [decide_eq_false (fun z => by rw [z] at a2; cases a2; exact hn rfl)]
      walk_at "zz"
      refine ⟨_, d2, rfl, a2.mv k2, ?_⟩
      rw [show seenD d2 = stampD d2 by cases d2 <;> first | rfl | exact absurd rfl hn] at q
      cases h2 : stampD d2 with
      | false =>
        rw [h2] at q
        walk_at "zz"
        exact q _ c2
      | true =>
      rw [h2] at q
      walk_at "zz"
      refine ⟨_, d3, 0, rfl, a3.mv k2, ?_⟩
      cases h3 : countD 0 d3 with
      | false =>
        rw [h3] at q
        walk_at "zz"
        exact q _ c2
      | true =>
      rw [h3] at q
      walk_at "zz"
      refine ⟨_, d4, n, rfl, a4.mv k2, c2.tg, fun H3 k3 => ?_⟩
      have c3 := c2.trans k3
      have k3 := KD.of_kp c3.kp
      cases h4 : rowD n d4 with
      | false =>
        rw [h4] at q
        walk_at "zz"
        exact q _ c3
      | true =>
      rw [h4] at q
      walk_at "zz"
      refine ⟨_, d5, 0, rfl, a5.mv k3, ?_⟩
      cases h5 : countD 0 d5 with
      | false =>
        rw [h5] at q
        walk_at "zz"
        exact q _ c3
      | true =>
      rw [h5] at q
      walk_at "zz"
      exact ⟨_, d6, n, rfl, a6.mv k3, c3.tg, fun H4 k4 => q _ (c3.trans k4)⟩
theorem ok_are_accounts {f ca Pt : Addr} {Ps : List Addr} {fd : FuncData} (F : FnP K "are_accounts" s_are_accounts f fd) (hcd : fd.code = .ref ca) (TB : GxR.TabB base mg ca Pt) (iP : Pt ∈ Ps) (m_all : mg "all" = none) (m_isinstance : mg "isinstance" = none) (m_tuple : mg "tuple" = none) (h_is_account : Has P w K mg base 9 "is_account" ["thing", "parts"] (spTn Ps accD)) : FnOk P w K mg base CX0 14 f fd ["thing", "parts"] (spTn Ps accsD) := by
  refine okC F sc_are_accounts (fun vs H Q E h => ?_) (fun A outer s H vs Q E hr h => ?_)
  · obtain ⟨v, d, n, rfl, _⟩ := h; rfl
  obtain ⟨v, d, n, rfl, hv, hT, q⟩ := h
  refine ⟨_, PSs.nox (pss_one (ps_ret (pe_and (pe_callB (call_isiE K) (by rfl) m_isinstance (by decide +kernel) (pa_cons (pv 0) (pa_cons (pe_bltn (v := .ty "tuple") (by rfl) m_tuple (by decide +kernel) rfl) pa_nil))) (pe_one (pe_all (k := 9) (own := [("account", 2)]) (g := gName 2) (hr.mono (by decide)) (by rfl) m_all TB hcd (by rfl) sc_are_accounts.nd (pi_tupE K (pv 0)) (blkOk_by (own := [("account", 2)]) (N := ["thing", "parts", "account"]) (sc := defScope s_are_accounts) (by decide +kernel)) ⟨rfl, by decide +kernel, rfl⟩ (fun _ _ _ _ _ _ _ hr => (pg_name (i := 2) sc_are_accounts.nd rfl (.inl rfl))) (fun _ _ _ _ _ _ _ hr => pts_nil) (fun _ _ _ _ _ _ _ hr => (pe_callH h_is_account (hr.mono (by decide)) (by rfl) (pa_cons (pv 2) (pa_cons (pv 1) pa_nil)))) (fun _ => rfl)))))), ?_⟩
  walk_at "zz"
  unfold accsD allT at q
  cases ht : isTupD d with
  | false =>
    rw [ht] at q
    refine z_isi (Da.noT (K := K) hv ht).1 (Da.noT (K := K) hv ht).2 ?_
    walk_at "zz"
    exact q H (Kc.refl hT)
  | true =>
    rw [ht] at q
    obtain ⟨ds, rfl⟩ := isT ht
    obtain ⟨p, xs, rfl, hp, g⟩ := hv.tupE
    refine z_isi (n := "tuple") (k := true) (.base (.tup hp)) (by decide +kernel) ?_
    walk_at "zz"
    refine ⟨_, rfl, p, rfl, ⟨_, SqT.of hp⟩, hT _ iP, fun H2 T2 => ?_⟩
    have c2 := Kc.of_tab hT iP T2
    refine all_da (accD n) c2.tg (c2.kp.tup hp) (DaAll.mv (KD.of_kp c2.kp) g) (fun x d H3 _ hd k3 Q' B hq => ?_) (fun H3 k3 => ite_bl (q _ (c2.trans k3)))
    refine ⟨rfl, ?_⟩
    walk_at "zz"
    exact ⟨x, d, n, rfl, hd, k3.tg, hq⟩
def rInDT (K : PySem.W.Frag) : R2 := fun x y H Q => ∃ d ds, Dp K H x d ∧ Dp K H y (.tuple ds) ∧ SeqAt.shaped d = true ∧ PyData.canLayAll0 ds = true ∧ Q (.bl (ds.any fun z => PyData.eqv z d)) H
theorem op_inDT {X : Cx} (K : PySem.W.Frag) (hu : X.A.units + 65 < cLine) (e : X.K = K := by rfl) : OpR X (compareOp .In) (rInDT K) := by
  rw [← e]
  intro pins s σ H x y v u Q I rx ry h
  obtain ⟨d, ds, hd, he, sd, se, q⟩ := h
  obtain ⟨as, r1⟩ := Dp.reads I d x v hd rx
  obtain ⟨bs, r2⟩ := Dp.reads I (.tuple ds) y u he ry
  exact SeqAt.in_tuple_reads r2 r1 se (SeqAt.canLay_of_shaped sd) (room_in_shaped sd hu) ⟨.bl _, H, I, rfl, q⟩
theorem Kc.of_kt {Ps : List Addr} {Pt : Addr} {H H1 : Hp} (h : TGs H Ps) (hP : Pt ∈ Ps) (k : Kt Pt H H1) : Kc Ps H H1 := ⟨k.kp (h Pt hP), fun P hP' => k.tg (h P hP')⟩
def Headed (d : PyData) : Prop := ∃ z r, d = .tuple (.str z :: r)
theorem firsts_da {H H' : Hp} : ∀ {xs : List V} {ds : List PyData}, DaAll H xs ds → (∀ d ∈ ds, Headed d) → DaAll H' ((ds.map fun x => strD (firstD x)).map V.str) (ds.map firstD)
  | _, _, .nil, _ => .nil
  | _, _, .cons (d := d) a g, h => by
    obtain ⟨z, r, rfl⟩ := h d (by simp)
    obtain ⟨p, xs, _, _, ga⟩ := a.tupE
    rcases ga with _ | ⟨a1, ga⟩
    obtain ⟨_, h1, h2⟩ := a1.strE
    exact .cons (.str z h1 h2) (firsts_da g fun d hd => h d (by simp [hd]))
/-- tuple(x[0] for x in a tuple) -/
theorem firsts {Pt p D : Addr} {xs : List V} {ds : List PyData} {H H2 : Hp} {Qd : Hp → Prop} {g : TG} {te : TE} {vs : List Nat} {σw : L2.St} (hp : H p = some (.tup xs)) (gd : DaAll H xs ds) (hf : ∀ d ∈ ds, Headed d) (hl : ds.length ≤ 1000) (hT : GxR.TabG H Pt) (T2 : GxR.Tabbed Pt H H2) (nD : H2 D = none)
    (hs : ∀ (u : Addr) (us : List V) (z : Str) (H' : Hp), H' u = some (.tup (.str z :: us)) → ∀ (Q' : VK) (B : Hp → Prop), Q' (.str z) H' → g (.ref u) σw H' fun σ2 H3 => wipe σ2 vs = σw ∧ tYes σ2 H3 fun b H4 => if b = true then te σ2 H4 Q' else B H4)
    (q : ∀ H3, (∀ (r : Addr) (o : HO), H3 r = none → Kt Pt H (upd H3 r o)) → H3 D = some (.lst ((ds.map fun x => strD (firstD x)).map V.str)) → Qd H3) :
    ∃ W : Nat → Nat → Hp → Prop, (∃ m, W 0 m (upd H2 D (.lst []))) ∧ TupTurns (Itt K p) g tYes te vs σw D W Qd := by
  have nD0 : H D = none := tab_back T2 nD
  refine tup_tup (xs := xs) (fun i H' => Kd Pt D H H' ∧ H' D = some (.lst (((ds.map fun x => strD (firstD x)).take i).map V.str))) ⟨Kd.start T2 nD, upd_same⟩ (fun i H' h => SqT.of (h.1.get nD0 hT hp (fun _ z => by cases z))) ?_ ?_
  · rintro i x H3 hx ⟨k3, hD⟩
    obtain ⟨d, hd, da⟩ := gd.get hx
    obtain ⟨z, r, rfl⟩ := hf d (List.mem_of_getElem? hd)
    obtain ⟨u, us, rfl, hu, gu⟩ := da.tupE
    rcases gu with _ | ⟨a1, gu⟩
    obtain ⟨rfl, _, _⟩ := a1.strE
    have hu3 := k3.get nD0 hT hu (fun _ z => by cases z)
    have hi : i < ds.length := (List.getElem?_eq_some_iff.mp hd).1
    refine hs u _ z H3 hu3 _ _ ⟨_, hD, small1000 (by rw [List.length_map, List.length_take, List.length_map]; omega), k3.upd hD, ?_⟩
    rw [upd_same, List.take_add_one, List.getElem?_map, hd, List.map_append]
    rfl
  · rintro H3 ⟨k3, hD⟩
    refine q H3 (fun r o nr => (k3.kt nD0).trans (Kt.of_same (same_upd nr) k3.tab)) ?_
    rw [hD, List.take_of_length_le (by rw [List.length_map, gd.len]; exact Nat.le_refl _)]
theorem eras_headed {d : PyData} (h : allT eraD d = true) : ∃ ds, d = .tuple ds ∧ ∀ x ∈ ds, Headed x := by
  unfold allT at h
  rw [Bool.and_eq_true] at h
  obtain ⟨ds, rfl⟩ := isT h.1
  refine ⟨ds, rfl, fun x hx => ?_⟩
  have := List.all_eq_true.mp h.2 x hx
  unfold eraD at this
  split at this
  · rw [Bool.and_eq_true] at this
    rw [name_str this.1]
    exact ⟨_, _, rfl⟩
  · cases this
theorem accs_headed {n : Nat} {d : PyData} (h : accsD n d = true) : ∃ ds, d = .tuple ds ∧ ∀ x ∈ ds, Headed x := by
  unfold accsD allT at h
  rw [Bool.and_eq_true] at h
  obtain ⟨ds, rfl⟩ := isT h.1
  refine ⟨ds, rfl, fun x hx => ?_⟩
  have := List.all_eq_true.mp h.2 x hx
  unfold accD at this
  split at this
  · rw [Bool.and_eq_true] at this
    rw [name_str this.1]
    exact ⟨_, _, rfl⟩
  · cases this
theorem depth0 {ds : List PyData} (h : ∀ d ∈ ds, d.depth = 0) : PyData.depthAll ds = 0 := by
  induction ds with
  | nil => rfl
  | cons d ds ih =>
    unfold PyData.depthAll
    rw [h d (by simp), ih fun x hx => h x (by simp [hx])]
    rfl
theorem count_int {n : Int} {d : PyData} (h : countD n d = true) : ∃ i, d = .int i := by
  cases d <;> first | exact ⟨_, rfl⟩ | cases h
theorem entry_depth {n : Nat} {d : PyData} (h : entryD n d = true) : d.depth ≤ 64 := by
  unfold entryD at h
  split at h
  · rename_i z l v u o
    simp only [Bool.and_eq_true] at h
    obtain ⟨h1, h2, h3, h4, h5, h6⟩ := h
    rw [name_str h1]
    obtain ⟨i, rfl⟩ := count_int h2
    obtain ⟨j, rfl⟩ := count_int h3
    obtain ⟨us, rfl⟩ := nums_T h4
    unfold othersD at h6
    rw [Bool.and_eq_true, Bool.and_eq_true] at h6
    obtain ⟨os, rfl⟩ := isT h6.1
    have d1 : PyData.depthAll us = 0 := depth0 fun x hx => by
      unfold numsD nuB at h4
      simp only [Bool.and_eq_true] at h4
      have := List.all_eq_true.mp h4.2.2 (ownD x) (List.mem_map.mpr ⟨x, hx, rfl⟩)
      cases x <;> first | rfl | cases this
    have d2 : PyData.depthAll os = 0 := depth0 fun x hx => by
      have := List.all_eq_true.mp h6.2.1 x hx
      rw [name_str this]
      rfl
    simp only [PyData.depth, PyData.depthAll, d1, d2]
    decide
  · cases h
def szD (d : PyData) : Prop := ∀ x ∈ itD d, (itD x).length ≤ 1000
def spBooks (Ps : List Addr) : Sp := fun vs H Q _ => ∃ (v : V) (d : PyData), vs = [v] ∧ Da H v d ∧ szD d ∧ TGs H Ps ∧ ∀ H2, Kc Ps H H2 → Q (.bl (booksD d)) H2
theorem ok_is_books {f ca Pt Pn Pu : Addr} {Ps : List Addr} {fd : FuncData} (F : FnP K "is_books" s_is_books f fd) (hcd : fd.code = .ref ca) (TB : GxR.TabB base mg ca Pt) (iP : Pt ∈ Ps) (iN : Pn ∈ Ps) (iU : Pu ∈ Ps) (m_all : mg "all" = none) (m_len : mg "len" = none) (m_tuple : mg "tuple" = none) (h_is_tuple_of : Has P w K mg base 1 "is_tuple_of" ["thing", "many"] spTupOf) (h_is_name : Has P w K mg base 5 "is_name" ["thing"] (spIsName K Pn)) (h_is_numbers : Has P w K mg base 7 "is_numbers" ["thing"] (spNums K Pu))
    (h_are_eras : Has P w K mg base 11 "are_eras" ["thing"] (spT0 Ps (allT eraD))) (h_are_accounts : Has P w K mg base 14 "are_accounts" ["thing", "parts"] (spTn Ps accsD)) (h_is_roll : Has P w K mg base 16 "is_roll" ["thing", "many"] (spRoll Ps)) (h_are_others : Has P w K mg base 10 "are_others" ["thing", "own"] (spOth Ps)) (h_is_entry : Has P w K mg base 11 "is_entry" ["thing", "many"] (spTn Ps entryD)) : FnOk P w K mg base CX0 17 f fd ["thing"] (spBooks Ps) := by
  refine okC F sc_is_books (fun vs H Q E h => ?_) (fun A outer s H vs Q E hr h => ?_)
  · obtain ⟨v, d, rfl, _⟩ := h; rfl
  obtain ⟨v, d, rfl, hv, sz, hT, q⟩ := h
  refine ⟨_, PSs.nox (pss_cons (ps_if (pt_not (pt_val (pe_callH h_is_tuple_of (hr.mono (by decide)) (by rfl) (pa_cons (pv 0) (pa_cons pe_int pa_nil)))))
    (pss_one (ps_ret pe_bl))
    pss_nil)
  (pss_cons (ps_asg (pv 0) (pg_tup rfl (pgs_cons (pg_name (i := 1) sc_is_books.nd rfl (.inl rfl)) (pgs_cons (pg_name (i := 2) sc_is_books.nd rfl (.inl rfl)) (pgs_cons (pg_name (i := 3) sc_is_books.nd rfl (.inl rfl)) (pgs_cons (pg_name (i := 4) sc_is_books.nd rfl (.inl rfl)) (pgs_cons (pg_name (i := 5) sc_is_books.nd rfl (.inl rfl)) (pgs_cons (pg_name (i := 6) sc_is_books.nd rfl (.inl rfl)) (pgs_cons (pg_name (i := 7) sc_is_books.nd rfl (.inl rfl)) pgs_nil)))))))))
  (pss_cons (ps_if (PW.pt (pw_or (pt_not (pt_val (pe_callH h_is_name (hr.mono (by decide)) (by rfl) (pa_cons (pv 1) pa_nil)))) (pw_or1 (pt_not (pt_val (pe_callH h_is_numbers (hr.mono (by decide)) (by rfl) (pa_cons (pv 4) pa_nil)))))))
    (pss_one (ps_ret pe_bl))
    pss_nil)
  (pss_cons (ps_set (i := 8) sc_is_books.nd rfl (.inl rfl) (pe_callB (call_lenE K) (by rfl) m_len (by decide +kernel) (pa_cons (pv 4) pa_nil)))
  (pss_cons (ps_if (PW.pt (pw_or (pt_not (pt_val (pe_callH h_are_eras (hr.mono (by decide)) (by rfl) (pa_cons (pv 5) pa_nil)))) (pw_or (pt_not (pt_val (pe_callH h_are_accounts (hr.mono (by decide)) (by rfl) (pa_cons (pv 6) (pa_cons (pe_op op_add (pv 8) pe_int) pa_nil))))) (pw_or1 (pt_not (pt_val (pe_callH h_is_roll (hr.mono (by decide)) (by rfl) (pa_cons (pv 7) (pa_cons (pv 8) pa_nil)))))))))
    (pss_one (ps_ret pe_bl))
    pss_nil)
  (pss_cons (ps_set (i := 9) sc_is_books.nd rfl (.inr rfl) (pe_tupG (k := 0) (own := [("era", 12)]) (g := gName 12) (hr.mono (by decide)) (by rfl) m_tuple TB hcd (by rfl) sc_is_books.nd (pi_tupE K (pv 5)) (blkOk_by (own := [("era", 12)]) (N := ["thing", "name", "life", "version", "numbers", "eras", "accounts", "roll", "many", "known", "tied", "own", "era", "account", "other"]) (sc := defScope s_is_books) (by decide +kernel)) ⟨rfl, by decide +kernel, rfl⟩ (fun _ _ _ _ _ _ _ hr => (pg_name (i := 12) sc_is_books.nd rfl (.inl rfl))) (fun _ _ _ _ _ _ _ hr => pts_nil) (fun _ _ _ _ _ _ _ hr => (pe_ix (ix_tupE K) (pv 12) pe_int (fun _ _ => rfl))) (fun _ => rfl)))
  (pss_cons (ps_set (i := 10) sc_is_books.nd rfl (.inl rfl) (pe_tupG (k := 0) (own := [("account", 13)]) (g := gName 13) (hr.mono (by decide)) (by rfl) m_tuple TB hcd (by rfl) sc_is_books.nd (pi_tupE K (pv 6)) (blkOk_by (own := [("account", 13)]) (N := ["thing", "name", "life", "version", "numbers", "eras", "accounts", "roll", "many", "known", "tied", "own", "era", "account", "other"]) (sc := defScope s_is_books) (by decide +kernel)) ⟨rfl, by decide +kernel, rfl⟩ (fun _ _ _ _ _ _ _ hr => (pg_name (i := 13) sc_is_books.nd rfl (.inl rfl))) (fun _ _ _ _ _ _ _ hr => pts_nil) (fun _ _ _ _ _ _ _ hr => (pe_ix (ix_tupE K) (pv 13) pe_int (fun _ _ => rfl))) (fun _ => rfl)))
  (pss_cons (ps_if (PW.pt (pw_or (pt_not (pt_val (pe_callH h_are_others (hr.mono (by decide)) (by rfl) (pa_cons (pv 9) (pa_cons (pv 1) pa_nil))))) (pw_or (pt_not (pt_val (pe_callH h_are_others (hr.mono (by decide)) (by rfl) (pa_cons (pv 10) (pa_cons (pv 1) pa_nil))))) (pw_or1 (pt_not (pt_val (pe_all (k := 0) (own := [("other", 14)]) (g := gName 14) (hr.mono (by decide)) (by rfl) m_all TB hcd (by rfl) sc_is_books.nd (pi_tupE K (pv 10)) (blkOk_by (own := [("other", 14)]) (N := ["thing", "name", "life", "version", "numbers", "eras", "accounts", "roll", "many", "known", "tied", "own", "era", "account", "other"]) (sc := defScope s_is_books) (by decide +kernel)) ⟨rfl, by decide +kernel, rfl⟩ (fun _ _ _ _ _ _ _ hr => (pg_name (i := 14) sc_is_books.nd rfl (.inl rfl))) (fun _ _ _ _ _ _ _ hr => pts_nil) (fun _ _ _ _ _ _ _ hr => (pe_cmpR (op_inE K) (pv 14) (pv 9) (by rfl))) (fun _ => rfl))))))))
    (pss_one (ps_ret pe_bl))
    pss_nil)
  (pss_cons (ps_set (i := 11) sc_is_books.nd rfl (.inl rfl) (pe_tup (pa_cons (pv 1) (pa_cons (pv 2) (pa_cons (pv 3) (pa_cons (pv 4) (pa_cons (pv 10) pa_nil)))))))
  (pss_one (ps_ret (pe_and (pe_callH h_is_entry (hr.mono (by decide)) (by rfl) (pa_cons (pv 11) (pa_cons (pv 8) pa_nil))) (pe_one (pe_cmpR (op_inDT K (units65 hr)) (pv 11) (pv 7) (by rfl))))))))))))))), ?_⟩
  walk_at "zz"
  refine ⟨v, d, 7, rfl, hv, ?_⟩
  cases ht : tupD 7 d with
  | false =>
    have e : booksD d = false := by
      unfold booksD
      split
      · exact absurd rfl (tup_len ht _ rfl)
      · rfl
    rw [e] at q
    walk_at "zz"
    exact q H (Kc.refl hT)
  | true =>
    obtain ⟨ds, rfl, hl⟩ := tup_isT ht
    match ds, hl with
    | [d1, d2, d3, d4, d5, d6, d7], _ =>
    obtain ⟨p, xs, rfl, hp, g⟩ := hv.tupE
    have s5 : (itD d5).length ≤ 1000 := sz d5 (by simp [itD])
    have s6 : (itD d6).length ≤ 1000 := sz d6 (by simp [itD])
    have s7 : (itD d7).length ≤ 1000 := sz d7 (by simp [itD])
    rcases g with _ | ⟨a1, g⟩
    rcases g with _ | ⟨a2, g⟩
    rcases g with _ | ⟨a3, g⟩
    rcases g with _ | ⟨a4, g⟩
    rcases g with _ | ⟨a5, g⟩
    rcases g with _ | ⟨a6, g⟩
    rcases g with _ | ⟨a7, g⟩
    cases g
    unfold booksD at q
    dsimp only at q
    walk_at "zz"
    refine z_gTup (SqT.of hp) rfl ?_
    walk_at "zz"
    refine a1.name (hT _ iN) fun H2 T2 => ?_
    have c2 := Kc.of_tab hT iN T2
    have k2 := KD.of_kp c2.kp
    cases h1 : nameD d1 with
    | false =>
      rw [h1] at q
      walk_at "zz"
      exact q _ c2
    | true =>
    rw [h1, Bool.true_and] at q
    walk_at "zz"
    refine (a4.mv k2).nums (c2.tg _ iU) fun H3 T3 => ?_
    have c3 := c2.trans (Kc.of_tab c2.tg iU T3)
    have k3 := KD.of_kp c3.kp
    cases h4 : numsD d4 with
    | false =>
      rw [h4] at q
      walk_at "zz"
      exact q _ c3
    | true =>
    rw [h4, Bool.true_and] at q
    obtain ⟨us, rfl⟩ := nums_T h4
    obtain ⟨pu, ux, rfl, hu, gu⟩ := a4.tupE
    have e1 := name_str h1
    rw [e1] at a1
    obtain ⟨rfl, _, _⟩ := a1.strE
    have q : ∀ H2, Kc Ps H H2 → _ := q
    walk_at "zz"
    refine z_lenT (k3.t _ _ hu) ?_
    rw [gu.len]
    walk_at "zz"
    refine ⟨_, d5, rfl, a5.mv k3, c3.tg, fun H4 k4 => ?_⟩
    have c4 := c3.trans k4
    have k4 := KD.of_kp c4.kp
    cases h5 : allT eraD d5 with
    | false =>
      rw [h5] at q
      walk_at "zz"
      exact q _ c4
    | true =>
    rw [h5, Bool.true_and] at q
    walk_at "zz"
    refine ⟨_, d6, us.length + 1, rfl, a6.mv k4, c4.tg, fun H5 k5 => ?_⟩
    have c5 := c4.trans k5
    have k5 := KD.of_kp c5.kp
    have q : ∀ H2, Kc Ps H H2 → Q (.bl (accsD (us.length + 1) d6 && _)) H2 := q
    cases h6 : accsD (us.length + 1) d6 with
    | false =>
      rw [h6] at q
      walk_at "zz"
      exact q _ c5
    | true =>
    rw [h6, Bool.true_and] at q
    walk_at "zz"
    refine ⟨_, d7, us.length, rfl, a7.mv k5, s7, c5.tg, fun H6 k6 => ?_⟩
    have c6 := c5.trans k6
    have k6 := KD.of_kp c6.kp
    have q : ∀ H2, Kc Ps H H2 → Q (.bl (rollD us.length d7 && _)) H2 := q
    cases h7 : rollD us.length d7 with
    | false =>
      rw [h7] at q
      walk_at "zz"
      exact q _ c6
    | true =>
    rw [h7, Bool.true_and] at q
    obtain ⟨es, rfl, he⟩ := eras_headed h5
    obtain ⟨cs, rfl, hc⟩ := accs_headed h6
    obtain ⟨pe, ex, rfl, hpe, ge⟩ := a5.tupE
    obtain ⟨pc, cx, rfl, hpc, gc⟩ := a6.tupE
    have rt : ∃ rs, d7 = .tuple rs := by
      unfold rollD at h7
      rw [Bool.and_eq_true] at h7
      exact isT h7.1
    obtain ⟨rs, rfl⟩ := rt
    walk_at "zz"
    refine z_tupG ?_
    walk_at "zz"
    refine ⟨pe, rfl, ⟨_, SqT.of (k6.t _ _ hpe)⟩, c6.tg _ iP, fun H7 T7 D nD => ?_⟩
    refine firsts (k6.t _ _ hpe) (DaAll.mv k6 ge) he s5 (c6.tg _ iP) T7 nD (fun u us z H' hu Q' B hq => ?_) (fun H8 kt hD => ⟨_, hD, fun r7 nr => ?_⟩)
    · refine ⟨rfl, ?_⟩
      walk_at "zz"
      exact z_ixT (v := .str z) (SqT.of hu) (show atI _ ((0 : Nat) : Int) = some (V.str z) from atI_nat rfl) hq
    have kt8 := kt r7 (.tup ((es.map fun x => strD (firstD x)).map V.str)) nr
    have h8 : upd H8 r7 (.tup ((es.map fun x => strD (firstD x)).map V.str)) r7 = _ := upd_same
    clear kt hD nr
    generalize upd H8 r7 (.tup ((es.map fun x => strD (firstD x)).map V.str)) = H8 at kt8 h8 ⊢
    have cc8 := Kc.of_kt c6.tg iP kt8
    have c8 := c6.trans cc8
    have k8 := KD.of_kp c8.kp
    walk_at "zz"
    refine z_tupG ?_
    walk_at "zz"
    refine ⟨pc, rfl, ⟨_, SqT.of (k8.t _ _ hpc)⟩, c8.tg _ iP, fun H9 T9 D nD => ?_⟩
    refine firsts (k8.t _ _ hpc) (DaAll.mv k8 gc) hc s6 (c8.tg _ iP) T9 nD (fun u us z H' hu Q' B hq => ?_) (fun Ha kt hD => ⟨_, hD, fun r9 nr => ?_⟩)
    · refine ⟨rfl, ?_⟩
      walk_at "zz"
      exact z_ixT (v := .str z) (SqT.of hu) (show atI _ ((0 : Nat) : Int) = some (V.str z) from atI_nat rfl) hq
    have kta := kt r9 (.tup ((cs.map fun x => strD (firstD x)).map V.str)) nr
    have ha : upd Ha r9 (.tup ((cs.map fun x => strD (firstD x)).map V.str)) r9 = _ := upd_same
    clear kt hD nr
    generalize upd Ha r9 (.tup ((cs.map fun x => strD (firstD x)).map V.str)) = Ha at kta ha ⊢
    have cca := Kc.of_kt c8.tg iP kta
    have ca := c8.trans cca
    have h8a := cca.kp.tup h8
    have dk : ∀ {G : Hp}, KD Ha G → Da G (.ref r7) (.tuple (es.map firstD)) := fun k => .tup (k.t _ _ h8a) (firsts_da ge he)
    have dt : ∀ {G : Hp}, KD Ha G → Da G (.ref r9) (.tuple (cs.map firstD)) := fun k => .tup (k.t _ _ ha) (firsts_da gc hc)
    have q : ∀ H2, Kc Ps H H2 → Q (.bl (othersD (strD d1) (.tuple (es.map firstD)) && (othersD (strD d1) (.tuple (cs.map firstD)) && ((cs.map firstD).all (fun x => decide (strD x ∈ (es.map firstD).map strD)) && (entryD us.length (.tuple [d1, d2, d3, .tuple us, .tuple (cs.map firstD)]) && rs.any (fun x => PyData.eqv x (.tuple [d1, d2, d3, .tuple us, .tuple (cs.map firstD)]))))))) H2 := q
    walk_at "zz"
    refine ⟨_, _, _, rfl, dk ⟨fun _ _ h => h, fun _ _ h => h⟩, ca.tg, fun Hb kb => ?_⟩
    have cb := ca.trans kb
    cases g1 : othersD (strD d1) (.tuple (es.map firstD)) with
    | false =>
      rw [g1] at q
      walk_at "zz"
      exact q _ cb
    | true =>
    rw [g1, Bool.true_and] at q
    walk_at "zz"
    refine ⟨_, _, _, rfl, dt (KD.of_kp kb.kp), cb.tg, fun Hc kc => ?_⟩
    have cc := cb.trans kc
    have kbc := kb.trans kc
    cases g2 : othersD (strD d1) (.tuple (cs.map firstD)) with
    | false =>
      rw [g2] at q
      walk_at "zz"
      exact q _ cc
    | true =>
    rw [g2, Bool.true_and] at q
    walk_at "zz"
    refine ⟨_, rfl, r9, rfl, ⟨_, SqT.of (kbc.kp.tup ha)⟩, cc.tg _ iP, fun Hd Td => ?_⟩
    have ctd := Kc.of_tab cc.tg iP Td
    have cd := cc.trans ctd
    have kad := kbc.trans ctd
    refine all_da (fun x => decide (strD x ∈ (es.map firstD).map strD)) cd.tg (kad.kp.tup ha) (firsts_da gc hc) (fun x d He hd dax ke Q' B hq => ?_) (fun He ke => ?_)
    · obtain ⟨x0, hx0, rfl⟩ := List.mem_map.mp hd
      obtain ⟨z, r, rfl⟩ := hc x0 hx0
      obtain ⟨rfl, _, _⟩ := dax.strE
      refine ⟨rfl, ?_⟩
      walk_at "zz"
      refine z_inST ((kad.trans ke).kp.tup h8a) ?_
      have hq := hq _ (Kc.refl ke.tg)
      rw [List.map_map] at hq
      exact hq
    have ce := cd.trans ke
    have kae := kad.trans ke
    have ke := KD.of_kp ce.kp
    cases g3 : (cs.map firstD).all (fun x => decide (strD x ∈ (es.map firstD).map strD)) with
    | false =>
      rw [g3] at q
      simp only [Bool.false_eq_true, if_false]
      walk_at "zz"
      exact q _ ce
    | true =>
    rw [g3, Bool.true_and] at q
    simp only [if_true]
    walk_at "zz"
    refine z_new (by simp) (fun po Hf nf ef hf => ?_)
    have cf := Kc.of_same ce.tg ef
    have ccf := ce.trans cf
    have kf := KD.of_kp ccf.kp
    have dao : ∀ {G : Hp}, KD Hf G → Da G (.ref po) (.tuple [d1, d2, d3, .tuple us, .tuple (cs.map firstD)]) := fun {G} k =>
      .tup (k.t _ _ hf) (.cons (by rw [e1]; exact .str _ ‹_› ‹_›) (.cons (a2.mv (kf.trans k)) (.cons (a3.mv (kf.trans k)) (.cons (a4.mv (kf.trans k)) (.cons (dt ((KD.of_kp (kae.trans cf).kp).trans k)) .nil)))))
    walk_at "zz"
    refine ⟨_, _, us.length, rfl, dao ⟨fun _ _ h => h, fun _ _ h => h⟩, ccf.tg, fun Hg kg => ?_⟩
    have cg := ccf.trans kg
    cases g4 : entryD us.length (.tuple [d1, d2, d3, .tuple us, .tuple (cs.map firstD)]) with
    | false =>
      rw [g4] at q
      walk_at "zz"
      exact q _ cg
    | true =>
    rw [g4, Bool.true_and] at q
    walk_at "zz"
    have fo := dao (KD.of_kp kg.kp)
    refine ⟨_, rs, fo.dp, (a7.mv (KD.of_kp cg.kp)).dp, ?_, ?_, q _ cg⟩
    · unfold SeqAt.shaped
      rw [fo.lay, decide_eq_true (entry_depth g4)]
      rfl
    · have := a7.lay
      unfold PyData.canLay0 at this
      exact this
def spCell (K : PySem.W.Frag) : Sp := fun vs H Q _ => ∃ (a : Addr) (ns : List Int) (k : Nat), vs = [.ref a, .int (k : Int)] ∧ SqL K H a (ns.map V.int) ∧ ns.length ≤ 63 ∧ ∀ c : Int, Q (.int c) H
theorem ok__law_cell_at {f : Addr} {fd : FuncData} (F : FnP K "_law_cell_at" s__law_cell_at f fd) (m_len : mg "len" = none) : FnOk P w K mg base CX0 1 f fd ["_law_script", "_law_k"] (spCell K) := by
  refine F.ok sc__law_cell_at (fun vs H Q E h => ?_) (fun cdv A outer s H vs Q E hr h => ?_)
  · obtain ⟨a, ns, k, rfl, _⟩ := h; rfl
  obtain ⟨a, ns, k, rfl, hS, hl, q⟩ := h
  refine ⟨_, PSs.nox (pss_cons (ps_if (pt_cmpR op_lt (pv 1) (pe_callB (call_lenE K) (by rfl) m_len (by decide +kernel) (pa_cons (pv 0) pa_nil)) (nomark _))
    (pss_one (ps_ret (pe_ix (ix_listE K) (pv 0) (pv 1) (fun _ _ => rfl))))
    pss_nil)
  (pss_one (ps_ret pe_int))), ?_⟩
  walk_at "zz"
  refine z_lenL hS ?_
  rw [List.length_map]
  walk_at "zz"
  refine z_ite (fun h => ?_) (fun h => ?_)
  · walk_at "zz"
    have h1 : k < ns.length := by omega
    refine z_ixL hS (v := .int ns[k]) (atI_nat ?_) ?_
    · rw [List.getElem?_map, List.getElem?_eq_getElem h1]
      rfl
    · exact q _
  · walk_at "zz"
    exact q _
def spMix : Sp := fun vs H Q _ => ∃ (c : Int) (k : Nat), vs = [.int c, .int (k : Int)] ∧ ∀ r : Int, 0 ≤ r → Q (.int r) H
theorem ok__law_mixed {f : Addr} {fd : FuncData} (F : FnP K "_law_mixed" s__law_mixed f fd) : FnOk P w K mg base CX0 1 f fd ["_law_cell", "_law_k"] spMix := by
  refine F.ok sc__law_mixed (fun vs H Q E h => ?_) (fun cdv A outer s H vs Q E hr h => ?_)
  · obtain ⟨c, k, rfl, _⟩ := h; rfl
  obtain ⟨c, k, rfl, q⟩ := h
  refine ⟨_, PSs.nox (pss_cons (ps_if (PW.pt (pw_and (pt_cmpR op_ge (pv 0) (pe_op op_shlA pe_int pe_int) (nomark _)) (pw_and (pt_cmpR op_eq (pe_op op_modN (pv 0) pe_int) pe_int (nomark _)) (pw_and1 (pt_cmpR op_gt (pe_op op_shrA (pv 0) (pe_op op_add pe_int (pe_op op_mulA pe_int (pv 1)))) pe_int (nomark _))))))
    (pss_one (ps_ret (pe_op op_modN (pe_op op_shrA (pv 0) (pe_op op_add pe_int (pe_op op_mulA pe_int (pv 1)))) pe_int)))
    pss_nil)
  (pss_cons (ps_set (i := 2) sc__law_mixed.nd rfl (.inl rfl) (pe_op op_modN (pe_op op_mulA (pe_op op_add (pe_op op_add (pe_op op_modN (pv 0) pe_int) (pe_op op_mulA pe_int (pv 1))) pe_int) pe_int) pe_int))
  (pss_cons (ps_set (i := 2) sc__law_mixed.nd rfl (.inl rfl) (pe_op op_modN (pe_op op_mulA (pv 2) (pe_op op_add (pe_op op_fdivA (pv 2) pe_int) pe_int)) pe_int))
  (pss_one (ps_ret (pe_op op_modN (pe_op op_mulA (pv 2) (pe_op op_add (pe_op op_add (pe_op op_fdivA (pv 2) pe_int) pe_int) (pv 1))) pe_int)))))), ?_⟩
  with_reducible refine z_seq ?_
  with_reducible refine cutSt (t := tIfS _ _ _) (fun σ' H' => σ' = [some (.int c), some (.int (k : Int)), none] ∧ H' = H) (fun D' hD' hrt _ _ => ?_) ?_
  · walk_at "zz"
    refine z_shlA ⟨by decide, by decide +kernel⟩ ?_
    walk_at "zz"
    refine z_ite (fun _ => ?_) (fun _ => ?_)
    · walk_at "zz"
      refine z_ite (fun _ => ?_) (fun _ => ?_)
      · walk_at "zz"
        refine z_mulA (mulL (by decide)) ?_
        walk_at "zz"
        refine z_shrA (by omega) ?_
        walk_at "zz"
        refine z_ite (fun _ => ?_) (fun _ => ?_)
        · walk_at "zz"
          refine z_mulA (mulL (by decide)) ?_
          walk_at "zz"
          refine z_shrA (by omega) ?_
          walk_at "zz"
          rw [hrt]
          exact q _ (Int.fmod_nonneg_of_pos _ (by decide))
        · walk_at "zz"
          exact hD' _ _ ⟨rfl, rfl⟩
      · walk_at "zz"
        exact hD' _ _ ⟨rfl, rfl⟩
    · walk_at "zz"
      exact hD' _ _ ⟨rfl, rfl⟩
  · rintro σ' H' ⟨rfl, rfl⟩
    walk_at "zz"
    refine z_mulA (mulL (by decide)) ?_
    walk_at "zz"
    refine z_mulA (mulR (by decide)) ?_
    walk_at "zz"
    generalize hn : ((c.fmod 2147483647 + 7919 * (k : Int) + 1) * 48271).fmod 2147483647 = n
    have n0 : 0 ≤ n := by rw [← hn]; exact Int.fmod_nonneg_of_pos _ (by decide)
    have n1 : n < 2147483647 := by rw [← hn]; exact Int.fmod_lt_of_pos _ (by decide)
    refine z_fdivA ⟨by decide, by decide +kernel⟩ ?_
    walk_at "zz"
    refine z_mulA (mulL ⟨by omega, by omega⟩) ?_
    walk_at "zz"
    generalize hk : (n * (n.fdiv 1009 + 69621)).fmod 2147483647 = j
    have k0 : 0 ≤ j := by rw [← hk]; exact Int.fmod_nonneg_of_pos _ (by decide)
    have k1 : j < 2147483647 := by rw [← hk]; exact Int.fmod_lt_of_pos _ (by decide)
    refine z_fdivA ⟨by decide, by decide +kernel⟩ ?_
    walk_at "zz"
    refine z_mulA (mulL ⟨by omega, by omega⟩) ?_
    walk_at "zz"
    exact q _ (Int.fmod_nonneg_of_pos _ (by decide))
def spDrawD : Sp := fun vs H Q _ => ∃ (d : Addr) (m : Int), vs = [.ref d, .int m] ∧ 0 < m ∧ SrcD H d ∧ ∀ (r : Int) H', 0 ≤ r → r < m → Dd d H H' → Q (.int r) H'
theorem ok__law_draw {f : Addr} {fd : FuncData} (F : FnP K "_law_draw" s__law_draw f fd) (h__law_mixed : Has P w K mg base 1 "_law_mixed" ["_law_cell", "_law_k"] spMix) : FnOk P w K mg base CX0 2 f fd ["_law_draw_here", "_law_many"] spDrawD := by
  refine F.ok sc__law_draw (fun vs H Q E h => ?_) (fun cdv A outer s H vs Q E hr h => ?_)
  · obtain ⟨d, m, rfl, _⟩ := h; rfl
  obtain ⟨d, m, rfl, h0, ⟨c, n, hd⟩, q⟩ := h
  refine ⟨_, PSs.nox (pss_cons (ps_dput (hu_of hr) (pv 0) pe_str (pe_op op_add (pe_dget (hu_of hr) (pv 0) pe_str (fun _ _ => rfl)) pe_int) (by rfl))
  (pss_one (ps_ret (pe_op op_modN (pe_op op_fdivA (pe_callH h__law_mixed (hr.mono (by decide)) (by rfl) (pa_cons (pe_dget (hu_of hr) (pv 0) pe_str (fun _ _ => rfl)) (pa_cons (pe_dget (hu_of hr) (pv 0) pe_str (fun _ _ => rfl)) pa_nil))) pe_int) (pv 1))))), ?_⟩
  walk_at "zz"
  refine ⟨_, rfl, d, .int (n : Int), rfl, DGet.k (k := .inr "at") hd, ?_⟩
  walk_at "zz"
  have ek : putK [((.inr "cell" : Key), V.int c), (.inr "at", V.int (n : Int))] (.inr "at") (.int ((n : Int) + 1)) = [(.inr "cell", .int c), (.inr "at", .int ((n + 1 : Nat) : Int))] := rfl
  have h1 : upd H d (.dK (putK [((.inr "cell" : Key), V.int c), (.inr "at", V.int (n : Int))] (.inr "at") (.int ((n : Int) + 1)))) d = some (.dK [(.inr "cell", .int c), (.inr "at", .int ((n + 1 : Nat) : Int))]) := by rw [upd_same, ek]
  have dd : Dd d H (upd H d (.dK (putK [((.inr "cell" : Key), V.int c), (.inr "at", V.int (n : Int))] (.inr "at") (.int ((n : Int) + 1))))) := ⟨fun b o nb hb => by rw [upd_ne nb]; exact hb, ⟨c, n + 1, h1⟩, ⟨c, n, hd⟩⟩
  refine ⟨d, _, rfl, DPut.k (k := .inr "at") hd (small1000 (by simp)), ?_⟩
  generalize upd H d (.dK (putK [((.inr "cell" : Key), V.int c), (.inr "at", V.int (n : Int))] (.inr "at") (.int ((n : Int) + 1)))) = H1 at h1 dd ⊢
  walk_at "zz"
  refine ⟨_, rfl, d, .int c, rfl, DGet.k (k := .inr "cell") h1, ?_⟩
  walk_at "zz"
  refine ⟨_, rfl, d, .int ((n + 1 : Nat) : Int), rfl, DGet.k (k := .inr "at") h1, ?_⟩
  walk_at "zz"
  refine ⟨c, n + 1, rfl, fun r r0 => ?_⟩
  walk_at "zz"
  refine z_fdivA ⟨by decide, by decide +kernel⟩ ?_
  walk_at "zz"
  exact q _ _ (Int.fmod_nonneg_of_pos _ h0) (Int.fmod_lt_of_pos _ h0) dd
def spOneD : Sp := fun vs H Q _ => ∃ (d l : Addr) (xs : List V), vs = [.ref d, .ref l] ∧ SrcD H d ∧ H l = some (.lst xs) ∧ 1 ≤ xs.length ∧ xs.length ≤ 1000 ∧ ∀ (i : Nat) v H', xs[i]? = some v → Dd d H H' → Q v H'
theorem ok__law_one {f : Addr} {fd : FuncData} (F : FnP K "_law_one" s__law_one f fd) (m_len : mg "len" = none) (h__law_draw : Has P w K mg base 2 "_law_draw" ["_law_draw_here", "_law_many"] spDrawD) : FnOk P w K mg base CX0 3 f fd ["_law_draw_here", "_law_some"] spOneD := by
  refine F.ok sc__law_one (fun vs H Q E h => ?_) (fun cdv A outer s H vs Q E hr h => ?_)
  · obtain ⟨d, l, xs, rfl, _⟩ := h; rfl
  obtain ⟨d, l, xs, rfl, hd, hl, h1, h2, q⟩ := h
  refine ⟨_, PSs.nox (pss_one (ps_ret (pe_ix (ix_listE K) (pv 1) (pe_callH h__law_draw (hr.mono (by decide)) (by rfl) (pa_cons (pv 0) (pa_cons (pe_callB (call_lenE K) (by rfl) m_len (by decide +kernel) (pa_cons (pv 1) pa_nil)) pa_nil))) (fun _ _ => rfl)))), ?_⟩
  walk_at "zz"
  refine z_lenL (SqL.of hl) ?_
  walk_at "zz"
  refine ⟨d, _, rfl, by omega, hd, fun r H1 r0 r1 d1 => ?_⟩
  obtain ⟨j, rfl⟩ : ∃ j : Nat, r = (j : Int) := ⟨r.toNat, by omega⟩
  have hj : j < xs.length := by omega
  exact z_ixL (SqL.of (d1.lst hl)) (v := xs[j]) (atI_nat (List.getElem?_eq_getElem hj)) (q j _ _ (List.getElem?_eq_getElem hj) d1)
/-! ### how the law's own things are put together, said of data -/
theorem DaAll.at_ {H : Hp} : ∀ {vs : List V} {ds : List PyData} {i : Nat} {d : PyData}, DaAll H vs ds → ds[i]? = some d → ∃ v, vs[i]? = some v ∧ Da H v d
  | _, _, _, _, .nil, h => by simp at h
  | _, _, 0, _, .cons a _, h => by cases h; exact ⟨_, rfl, a⟩
  | _, _, i + 1, _, .cons _ g, h => DaAll.at_ (i := i) g h
def cutL {α : Type} (xs : List α) (lo hi : Option Int) : List α := (xs.drop (HT.sIx xs.length 0 lo)).take (HT.sIx xs.length xs.length hi - HT.sIx xs.length 0 lo)
theorem DaAll.cut {H : Hp} {vs : List V} {ds : List PyData} (g : DaAll H vs ds) (lo hi : Option Int) : DaAll H (cutV vs lo hi) (cutL ds lo hi) := by
  unfold cutV cutL
  rw [g.len]
  exact DaAll.take _ (DaAll.drop _ g)
theorem cutL_frm {α : Type} (l : List α) (a : Nat) : cutL l (some (a : Int)) none = l.drop a := by
  unfold cutL
  rw [HT.sIx_nat, HT.sIx_none]
  by_cases h : a ≤ l.length
  · rw [Nat.min_eq_left h, List.take_of_length_le (by rw [List.length_drop]; omega)]
  · rw [Nat.min_eq_right (by omega), Nat.sub_self, List.take_zero, List.drop_eq_nil_of_le (by omega)]
theorem cutL_to {α : Type} (l : List α) (a : Nat) : cutL l none (some (a : Int)) = l.take a := by
  unfold cutL
  rw [HT.sIx_nat, HT.sIx_none, List.drop_zero, Nat.sub_zero]
  by_cases h : a ≤ l.length
  · rw [Nat.min_eq_left h]
  · rw [Nat.min_eq_right (by omega), List.take_of_length_le (Nat.le_refl _), List.take_of_length_le (by omega)]
theorem cutL_last {α : Type} (l : List α) : cutL l none (some (-1)) = l.dropLast := by
  have e : HT.sIx l.length l.length (some (-1)) = l.length - 1 := by
    show (if (-1 : Int) < 0 then ((-1 : Int) + (l.length : Int)).toNat else min (-1 : Int).toNat l.length) = l.length - 1
    rw [if_pos (by decide)]
    omega
  unfold cutL
  rw [e, HT.sIx_none, List.drop_zero, Nat.sub_zero, List.dropLast_eq_take]
theorem cutL_one {α : Type} {l : List α} {i : Nat} {x : α} (h : l[i]? = some x) : cutL l (some (i : Int)) (some ((i : Int) + 1)) = [x] := by
  obtain ⟨hi, e⟩ := List.getElem?_eq_some_iff.mp h
  unfold cutL
  rw [show ((i : Int) + 1) = ((i + 1 : Nat) : Int) by omega, HT.sIx_nat, HT.sIx_nat, Nat.min_eq_left (by omega), Nat.min_eq_left (by omega), show i + 1 - i = 1 by omega, List.drop_eq_getElem_cons hi, e]
  rfl
section
variable {H : Hp} {Q : VK} {v w : V} {ds es : List PyData} {lo hi : Option Int}
theorem d_cat (a : Da H v (.tuple ds)) (b : Da H w (.tuple es)) (hl : ds.length + es.length ≤ 1000) (q : ∀ p H', Same H H' → Da H' (.ref p) (.tuple (ds ++ es)) → Q (.ref p) H') : rCatA K v w H Q := by
  obtain ⟨p, xs, rfl, hp, g⟩ := a.tupE
  obtain ⟨p2, ys, rfl, hp2, g2⟩ := b.tupE
  exact z_catT hp hp2 (by rw [g.len, g2.len]; exact hl) fun p' H' e h => q p' H' e (.tup h (DaAll.mv (KD.of_same e) (g.app g2)))
theorem d_sl (a : Da H v (.tuple ds)) (q : ∀ p H', Same H H' → Da H' (.ref p) (.tuple (cutL ds lo hi)) → Q (.ref p) H') : rSlA K v lo hi H Q := by
  obtain ⟨p, xs, rfl, hp, g⟩ := a.tupE
  exact z_slT hp fun p' H' e h => q p' H' e (.tup h (DaAll.mv (KD.of_same e) (g.cut lo hi)))
theorem d_ix {i : Nat} {d : PyData} (a : Da H v (.tuple ds)) (h : ds[i]? = some d) (q : ∀ w, Da H w d → Q w H) : rIxT K v (.int (i : Int)) H Q := by
  obtain ⟨p, xs, rfl, hp, g⟩ := a.tupE
  obtain ⟨w, hw, da⟩ := g.at_ h
  exact z_ixT (SqT.of hp) (atI_nat hw) (q w da)
theorem d_list (a : Da H v (.tuple ds)) (q : ∀ p H', Same H H' → Da H' (.ref p) (.list ds) → Q (.ref p) H') : rListK K [v] H Q := by
  obtain ⟨p, xs, rfl, hp, g⟩ := a.tupE
  exact z_listT hp fun p' H' _ e h => q p' H' e (.lst h (DaAll.mv (KD.of_same e) g))
theorem d_len (a : Da H v (.tuple ds)) (q : Q (.int (ds.length : Int)) H) : rLenK K [v] H Q := by
  obtain ⟨p, xs, rfl, hp, g⟩ := a.tupE
  refine z_lenT hp ?_
  rw [g.len]
  exact q
theorem d_tup {vs : List V} (g : DaAll H vs ds) (hl : ds.length ≤ 1000) (q : ∀ p H', Same H H' → Da H' (.ref p) (.tuple ds) → Q (.ref p) H') : NewO HO.tup vs H Q :=
  z_new (by rw [g.len]; exact hl) fun p H' _ e h => q p H' e (.tup h (DaAll.mv (KD.of_same e) g))
end
/-- things to draw from: each is data of which R is so -/
inductive AllD (H : Hp) (R : PyData → Prop) : List V → Prop
  | nil : AllD H R []
  | cons {v : V} {d : PyData} {vs : List V} : Da H v d → R d → AllD H R vs → AllD H R (v :: vs)
theorem AllD.get {H : Hp} {R : PyData → Prop} : ∀ {vs : List V} {i : Nat} {v : V}, AllD H R vs → vs[i]? = some v → ∃ d, Da H v d ∧ R d
  | _, _, _, .nil, h => by simp at h
  | _, 0, _, .cons a r _, h => by cases h; exact ⟨_, a, r⟩
  | _, i + 1, _, .cons _ _ g, h => AllD.get (i := i) g h
theorem AllD.mv {H H' : Hp} {R : PyData → Prop} (k : KD H H') : ∀ {vs : List V}, AllD H R vs → AllD H' R vs
  | _, .nil => .nil
  | _, .cons a r g => .cons (a.mv k) r (AllD.mv k g)
theorem AllD.app {H : Hp} {R : PyData → Prop} : ∀ {vs ws : List V}, AllD H R vs → AllD H R ws → AllD H R (vs ++ ws)
  | _, _, .nil, h => h
  | _, _, .cons a r g, h => .cons a r (AllD.app g h)
theorem d_one {H : Hp} {Q : VK} {E : XK} {R : PyData → Prop} {s l : Addr} {vs : List V} (hs : SrcD H s) (hl : H l = some (.lst vs)) (a : AllD H R vs) (h1 : 1 ≤ vs.length) (h2 : vs.length ≤ 1000) (q : ∀ v d H', Da H' v d → R d → Dd s H H' → Q v H') : spOneD [.ref s, .ref l] H Q E :=
  ⟨s, l, vs, rfl, hs, hl, h1, h2, fun i v H' hv d => by
    obtain ⟨e, da, r⟩ := a.get hv
    exact q v e H' (da.mv (KD.of_dd d)) r d⟩
/-- a list to draw from, laid and drawn from at once -/
theorem d_menu {H : Hp} {Q : VK} {R : PyData → Prop} {vs : List V} (a : AllD H R vs) (h2 : vs.length ≤ 1000) (q : ∀ p H', Same H H' → H' p = some (.lst vs) → AllD H' R vs → Q (.ref p) H') : NewO HO.lst vs H Q :=
  z_new h2 fun p H' _ e h => q p H' e h (a.mv (KD.of_same e))
theorem Same.rfl_ {H : Hp} : Same H H := fun _ _ h => h
theorem KD.rfl_ {H : Hp} : KD H H := ⟨fun _ _ h => h, fun _ _ h => h⟩
/-! ### books that are none -/
structure BooksP (z l v u e a r : PyData) : Prop where
  nm : nameD z = true
  nu : numsD u = true
  er : allT eraD e = true
  ac : accsD (lenD u + 1) a = true
  ro : rollD (lenD u) r = true
  oe : othersD (strD z) (.tuple (knownD e)) = true
  oa : othersD (strD z) (.tuple (knownD a)) = true
  kn : (knownD a).all (fun x => decide (strD x ∈ (knownD e).map strD)) = true
  en : entryD (lenD u) (.tuple [z, l, v, u, .tuple (knownD a)]) = true
  ir : (itD r).any (fun x => PyData.eqv x (.tuple [z, l, v, u, .tuple (knownD a)])) = true
theorem books_split {z l v u e a r : PyData} (h : booksD (.tuple [z, l, v, u, e, a, r]) = true) : BooksP z l v u e a r := by
  unfold booksD at h
  simp only [Bool.and_eq_true] at h
  obtain ⟨h1, h2, h3, h4, h5, h6, h7, h8, h9, h10⟩ := h
  exact ⟨h1, h2, h3, h4, h5, h6, h7, h8, h9, h10⟩
theorem books_of {z l v u e a r : PyData} (h : BooksP z l v u e a r) : booksD (.tuple [z, l, v, u, e, a, r]) = true := by
  unfold booksD
  dsimp only
  rw [h.nm, h.nu, h.er, h.ac, h.ro, h.oe, h.oa, h.kn, h.en, h.ir]
  rfl
theorem books_no {z l v u e a r : PyData} (h : BooksP z l v u e a r → False) : booksD (.tuple [z, l, v, u, e, a, r]) = false := by
  cases hb : booksD (.tuple [z, l, v, u, e, a, r]) with
  | false => rfl
  | true => exact absurd (books_split hb) h
theorem no_of {b : Bool} (h : b = true → False) : b = false := by
  cases b with
  | false => rfl
  | true => exact (h rfl).elim
/-- the names of a roll, of eras, of accounts: rising -/
theorem rise_pw {zs : List Str} (h : riseB zs = true) : zs.Pairwise fun a b => a.cps.toList < b.cps.toList := by
  induction zs with
  | nil => exact .nil
  | cons x l ih =>
    cases l with
    | nil => exact .cons (fun _ h => by cases h) .nil
    | cons y l =>
      unfold riseB at h
      rw [Bool.and_eq_true, decide_eq_true_eq] at h
      have ih := ih h.2
      refine .cons (fun a ha => ?_) ih
      rcases List.mem_cons.mp ha with rfl | ha
      · exact h.1
      · exact lex_trans _ _ _ h.1 ((List.pairwise_cons.mp ih).1 a ha)
theorem pw_rise {zs : List Str} (h : zs.Pairwise fun a b => a.cps.toList < b.cps.toList) : riseB zs = true := by
  induction zs with
  | nil => rfl
  | cons x l ih =>
    cases l with
    | nil => rfl
    | cons y l =>
      obtain ⟨h1, h2⟩ := List.pairwise_cons.mp h
      unfold riseB
      rw [decide_eq_true (h1 y (by simp)), ih h2]
      rfl
def spNameD : Sp := fun vs H Q _ => ∃ d : Addr, vs = [.ref d] ∧ SrcD H d ∧ ∀ (z : Str) H', nmB z = true → Dd d H H' → Q (.str z) H'
theorem nm_of {z : Str} (h1 : 1 ≤ z.length) (h8 : z.length ≤ 8) (h : z.cps.toList.all smB = true) : nmB z = true := by
  unfold nmB
  rw [decide_eq_true h1, decide_eq_true h8, h]
  rfl
theorem ok__law_name {f : Addr} {fd : FuncData} (F : FnP K "_law_name" s__law_name f fd) (m_range : mg "range" = none) (h__law_draw : Has P w K mg base 2 "_law_draw" ["_law_draw_here", "_law_many"] spDrawD) : FnOk P w K mg base CX0 3 f fd ["_law_draw_here"] spNameD := by
  refine F.ok sc__law_name (fun vs H Q E h => ?_) (fun cdv A outer s H vs Q E hr h => ?_)
  · obtain ⟨d, rfl, _⟩ := h; rfl
  obtain ⟨d, rfl, hd, q⟩ := h
  refine ⟨_, PSs.nox (pss_cons (ps_set (i := 1) sc__law_name.nd rfl (.inl rfl) pe_str)
  (pss_cons (ps_set (i := 2) sc__law_name.nd rfl (.inl rfl) pe_str)
  (pss_cons (ps_for PassesOwn.never rfl (pi_range1 (by rfl) m_range (pa_cons (pe_op op_add pe_int (pe_callH h__law_draw (hr.mono (by decide)) (by rfl) (pa_cons (pv 0) (pa_cons pe_int pa_nil)))) pa_nil)) (pg_name (i := 3) sc__law_name.nd rfl (.inl rfl))
    (pss_one (ps_set (i := 2) sc__law_name.nd rfl (.inl rfl) (pe_op op_add_str (pv 2) (pe_ix ix_str (pv 1) (pe_callH h__law_draw (hr.mono (by decide)) (by rfl) (pa_cons (pv 0) (pa_cons pe_int pa_nil))) (fun _ _ => rfl))))))
  (pss_one (ps_ret (pv 2)))))), ?_⟩
  walk_at "zz"
  refine ⟨d, _, rfl, by decide, hd, fun r1 H1 r10 r11 d1 => ?_⟩
  obtain ⟨n1, rfl⟩ : ∃ j : Nat, r1 = (j : Int) := ⟨r1.toNat, by omega⟩
  walk_at "zz"
  refine ⟨_, rfl, by omega, by omega, ?_⟩
  rw [show ((1 : Int) + (n1 : Int)).toNat = n1 + 1 by omega]
  refine for_range (lo := 0) (n := n1 + 1) (fun i σ H' => ∃ (z : Str) (y3 : Option V), σ = [some (.ref d), some (.str "abcdefghijklmnopqrstuvwxyz"), some (.str z), y3] ∧ Dd d H H' ∧ z.length = i ∧ z.cps.toList.all smB = true) ⟨"", _, rfl, d1, rfl, rfl⟩ ?_ ?_
  · rintro i σ H2 hi ⟨z, y3, rfl, d2, lz, az⟩
    walk_at "zz"
    refine ⟨d, _, rfl, by decide, d2.src, fun r3 H3 r30 r31 d3 => ?_⟩
    obtain ⟨j, rfl⟩ : ∃ j : Nat, r3 = (j : Int) := ⟨r3.toNat, by omega⟩
    refine ⟨_, _, 97 + j, rfl, rfl, Nat.le_of_lt (small1000 (by decide +kernel)), atI_nat (letter_at j (by omega)), ?_⟩
    have l1 : (⟨#[97 + j]⟩ : Str).length = 1 := rfl
    refine ⟨_, _, rfl, rfl, Nat.le_of_lt (small1000 (by omega)), ?_⟩
    walk_at "zz"
    refine ⟨_, _, rfl, d2.trans d3, by rw [Str.length_append, l1, lz], ?_⟩
    have e2 : (z ++ (⟨#[97 + j]⟩ : Str)).cps.toList = z.cps.toList ++ [97 + j] := by
      show (z.cps ++ #[97 + j]).toList = _
      simp
    rw [e2, List.all_append, az]
    show (true && (smB (97 + j) && true)) = true
    rw [letter_sm (by omega)]
    rfl
  · rintro σ H2 ⟨z, y3, rfl, d2, lz, az⟩
    walk_at "zz"
    exact q z _ (nm_of (by omega) (by omega) az) d2
def putD (ds : List PyData) (k : Nat) (e : PyData) : List PyData := ds.take k ++ [e] ++ ds.drop (k + 1)
def spPut : Sp := fun vs H Q _ => ∃ (v w : V) (ds : List PyData) (k : Nat) (e : PyData), vs = [v, .int (k : Int), w] ∧ Da H v (.tuple ds) ∧ Da H w e ∧ ds.length ≤ 400 ∧ ∀ p H', Same H H' → Da H' (.ref p) (.tuple (putD ds k e)) → Q (.ref p) H'
theorem ok__law_put {f : Addr} {fd : FuncData} (F : FnP K "_law_put" s__law_put f fd) : FnOk P w K mg base CX0 1 f fd ["_law_row_here", "_law_k", "_law_one_here"] spPut := by
  refine F.ok sc__law_put (fun vs H Q E h => ?_) (fun cdv A outer s H vs Q E hr h => ?_)
  · obtain ⟨v, w, ds, k, e, rfl, _⟩ := h; rfl
  obtain ⟨v, w1, ds, k, e, rfl, hv, hw, hl, q⟩ := h
  refine ⟨_, PSs.nox (pss_one (ps_ret (pe_op (op_catE K) (pe_op (op_catE K) (pe_slice (sl_tupE K) (pv 0) po_none (po_some (pv 1))) (pe_tup (pa_cons (pv 2) pa_nil))) (pe_slice (sl_tupE K) (pv 0) (po_some (pe_op op_add (pv 1) pe_int)) po_none)))), ?_⟩
  walk_at "zz"
  refine d_sl hv (fun p1 H1 e1 d1 => ?_)
  rw [cutL_to] at d1
  walk_at "zz"
  refine d_tup (.cons (hw.mv (KD.of_same e1)) .nil) (by simp) (fun p2 H2 e2 d2 => ?_)
  refine d_cat (d1.mv (KD.of_same e2)) d2 (by simp only [List.length_take, List.length_cons, List.length_nil]; omega) (fun p3 H3 e3 d3 => ?_)
  walk_at "zz"
  refine d_sl (hv.mv (KD.of_same (e1.trans (e2.trans e3)))) (fun p4 H4 e4 d4 => ?_)
  rw [show ((k : Int) + 1) = ((k + 1 : Nat) : Int) by omega, cutL_frm] at d4
  refine d_cat (d3.mv (KD.of_same e4)) d4 (by simp only [List.length_append, List.length_take, List.length_drop, List.length_cons, List.length_nil]; omega) (fun p5 H5 e5 d5 => ?_)
  exact q p5 H5 (e1.trans (e2.trans (e3.trans (e4.trans e5)))) d5
theorem ok_str {z : Str} : PyData.strOk z = true ↔ ∀ c ∈ z.cps.toList, c < 0x110000 := by
  unfold PySem.PyData.strOk
  rw [← Array.all_toList, List.all_eq_true]
  exact ⟨fun h c hc => of_decide_eq_true (h c hc), fun h c hc => decide_eq_true (h c hc)⟩
theorem cps_app (a b : Str) : (a ++ b).cps.toList = a.cps.toList ++ b.cps.toList := by
  show (a.cps ++ b.cps).toList = _
  simp
theorem ok_app {a b : Str} (ha : PyData.strOk a = true) (hb : PyData.strOk b = true) : PyData.strOk (a ++ b) = true := by
  rw [ok_str] at ha hb ⊢
  rw [cps_app]
  intro c hc
  rcases List.mem_append.mp hc with h | h
  · exact ha c h
  · exact hb c h
theorem ok_cut {z : Str} {lo hi : Option Int} (h : PyData.strOk z = true) : PyData.strOk (cutS z lo hi) = true := by
  rw [ok_str] at h ⊢
  intro c hc
  refine h c ?_
  have hc : c ∈ (z.cps.toList.drop (HT.sIx z.length 0 lo)).take (HT.sIx z.length z.length hi - HT.sIx z.length 0 lo) := by
    simpa [cutS] using hc
  exact List.mem_of_mem_drop (List.mem_of_mem_take hc)
theorem nm_len {z : Str} (h : nmB z = true) : 1 ≤ z.length ∧ z.length ≤ 8 ∧ z.cps.toList.all smB = true := by
  unfold nmB at h
  rw [Bool.and_eq_true, Bool.and_eq_true, decide_eq_true_eq, decide_eq_true_eq] at h
  exact h
theorem nm_ok {z : Str} (h : nmB z = true) : PyData.strOk z = true := by
  rw [ok_str]
  intro c hc
  have := List.all_eq_true.mp (nm_len h).2.2 c hc
  unfold smB at this
  rw [Bool.and_eq_true] at this
  have := of_decide_eq_true this.2
  omega
theorem Da.nm {H : Hp} {z : Str} (h : nmB z = true) : Da H (.str z) (.str z) := .str z (by have := nm_len h; omega) (nm_ok h)
def spOddN : Sp := fun vs H Q _ => ∃ d : Addr, vs = [.ref d] ∧ SrcD H d ∧ ∀ (v : V) (e : PyData) (H' : Hp), Da H' v e → nameD e = false → (itD e).length ≤ 1 → Dd d H H' → Q v H'
theorem ok__law_odd_name {f : Addr} {fd : FuncData} (F : FnP K "_law_odd_name" s__law_odd_name f fd) (m_len : mg "len" = none) (h__law_draw : Has P w K mg base 2 "_law_draw" ["_law_draw_here", "_law_many"] spDrawD) (h__law_one : Has P w K mg base 3 "_law_one" ["_law_draw_here", "_law_some"] spOneD) (h__law_name : Has P w K mg base 3 "_law_name" ["_law_draw_here"] spNameD) : FnOk P w K mg base CX0 4 f fd ["_law_draw_here"] spOddN := by
  refine F.ok sc__law_odd_name (fun vs H Q E h => ?_) (fun cdv A outer s0 H vs Q E hr h => ?_)
  · obtain ⟨d, rfl, _⟩ := h; rfl
  obtain ⟨s, rfl, hs, q⟩ := h
  refine ⟨_, PSs.nox (pss_cons (ps_set (i := 1) sc__law_odd_name.nd rfl (.inl rfl) (pe_callH h__law_name (hr.mono (by decide)) (by rfl) (pa_cons (pv 0) pa_nil)))
  (pss_cons (ps_set (i := 2) sc__law_odd_name.nd rfl (.inl rfl) (pe_callH h__law_draw (hr.mono (by decide)) (by rfl) (pa_cons (pv 0) (pa_cons (pe_op op_add (pe_callB (call_lenE K) (by rfl) m_len (by decide +kernel) (pa_cons (pv 1) pa_nil)) pe_int) pa_nil))))
  (pss_cons (ps_set (i := 3) sc__law_odd_name.nd rfl (.inl rfl) (pe_op op_add_str (pe_op op_add_str (pe_slice sl_str (pv 1) po_none (po_some (pv 2))) (pe_callH h__law_one (hr.mono (by decide)) (by rfl) (pa_cons (pv 0) (pa_cons (pe_lst (pa_cons pe_str (pa_cons pe_str (pa_cons pe_str (pa_cons pe_str (pa_cons pe_str (pa_cons pe_str (pa_cons pe_str (pa_cons pe_str pa_nil))))))))) pa_nil)))) (pe_slice sl_str (pv 1) (po_some (pv 2)) po_none)))
  (pss_one (ps_ret (pe_callH h__law_one (hr.mono (by decide)) (by rfl) (pa_cons (pv 0) (pa_cons (pe_lst (pa_cons pe_str (pa_cons pe_non (pa_cons pe_int (pa_cons (pe_tup (pa_cons (pv 1) pa_nil)) (pa_cons (pe_op op_add_str (pv 1) pe_str) (pa_cons (pv 3) (pa_cons (pv 3) (pa_cons (pv 3) pa_nil))))))))) pa_nil)))))))), ?_⟩
  walk_at "zz"
  refine ⟨s, rfl, hs, fun z H1 hz d1 => ?_⟩
  obtain ⟨l1, l8, lz⟩ := nm_len hz
  walk_at "zz"
  refine z_lenS (by omega) ?_
  walk_at "zz"
  refine ⟨s, _, rfl, by omega, d1.src, fun r2 H2 r20 r21 d2 => ?_⟩
  obtain ⟨k, rfl⟩ : ∃ j : Nat, r2 = (j : Int) := ⟨r2.toNat, by omega⟩
  walk_at "zz"
  refine ⟨z, rfl, Nat.le_of_lt (small1000 (by omega)), ?_⟩
  walk_at "zz"
  refine d_menu (R := fun d => ∃ o : Str, d = .str o ∧ o.length = 1 ∧ PyData.strOk o = true ∧ o.cps.toList.all smB = false) (.cons (.str "A" (by decide +kernel) (by decide +kernel)) ⟨_, rfl, by decide +kernel, by decide +kernel, by decide +kernel⟩ (.cons (.str "Z" (by decide +kernel) (by decide +kernel)) ⟨_, rfl, by decide +kernel, by decide +kernel, by decide +kernel⟩ (.cons (.str "`" (by decide +kernel) (by decide +kernel)) ⟨_, rfl, by decide +kernel, by decide +kernel, by decide +kernel⟩ (.cons (.str "{" (by decide +kernel) (by decide +kernel)) ⟨_, rfl, by decide +kernel, by decide +kernel, by decide +kernel⟩ (.cons (.str "9" (by decide +kernel) (by decide +kernel)) ⟨_, rfl, by decide +kernel, by decide +kernel, by decide +kernel⟩ (.cons (.str " " (by decide +kernel) (by decide +kernel)) ⟨_, rfl, by decide +kernel, by decide +kernel, by decide +kernel⟩ (.cons (.str "_" (by decide +kernel) (by decide +kernel)) ⟨_, rfl, by decide +kernel, by decide +kernel, by decide +kernel⟩ (.cons (.str "\n" (by decide +kernel) (by decide +kernel)) ⟨_, rfl, by decide +kernel, by decide +kernel, by decide +kernel⟩ .nil)))))))) (by simp) (fun p3 H3 e3 h3 a3 => ?_)
  walk_at "zz"
  refine d_one (d2.src.same e3) h3 a3 (by simp) (by simp) (fun v o0 H4 da4 ho d4 => ?_)
  obtain ⟨o, rfl, lo, oko, bad⟩ := ho
  obtain ⟨rfl, _, _⟩ := da4.strE
  have D4 := d1.trans (d2.trans ((Dd.of_same d2.src e3).trans d4))
  have c1 := cutS_length z none (some (k : Int))
  have c2 := cutS_length z (some (k : Int)) none
  refine ⟨_, _, rfl, rfl, Nat.le_of_lt (small1000 (by omega)), ?_⟩
  walk_at "zz"
  refine ⟨z, rfl, Nat.le_of_lt (small1000 (by omega)), ?_⟩
  refine ⟨_, _, rfl, rfl, Nat.le_of_lt (small1000 (by rw [Str.length_append]; omega)), ?_⟩
  walk_at "zz"
  refine d_tup (.cons (Da.nm hz) .nil) (by simp) (fun p5 H5 e5 d5 => ?_)
  walk_at "zz"
  have l8' : ("abcdefgh" : Str).length = 8 := by decide +kernel
  refine ⟨_, _, rfl, rfl, Nat.le_of_lt (small1000 (by omega)), ?_⟩
  walk_at "zz"
  have okz := nm_ok hz
  have sp : ∀ {G : Hp}, Da G (.str (cutS z none (some (k : Int)) ++ o ++ cutS z (some (k : Int)) none)) (.str (cutS z none (some (k : Int)) ++ o ++ cutS z (some (k : Int)) none)) := fun {G} =>
    .str _ (by rw [Str.length_append, Str.length_append]; omega) (ok_app (ok_app (ok_cut okz) oko) (ok_cut okz))
  have sb : nameD (.str (cutS z none (some (k : Int)) ++ o ++ cutS z (some (k : Int)) none)) = false := by
    show nmB _ = false
    unfold nmB
    rw [cps_app, cps_app, List.all_append, List.all_append, bad]
    simp
  have lb : nameD (.str (z ++ "abcdefgh")) = false := by
    show nmB _ = false
    unfold nmB
    rw [Str.length_append, l8', decide_eq_false (show ¬ z.length + 8 ≤ 8 by omega)]
    simp
  refine d_menu (R := fun d => nameD d = false ∧ (itD d).length ≤ 1) (.cons (.str "" (by decide +kernel) (by decide +kernel)) ⟨by decide +kernel, by decide +kernel⟩ (.cons .non ⟨rfl, by decide⟩ (.cons (.int 5) ⟨rfl, by decide⟩ (.cons d5 ⟨rfl, by simp [itD]⟩
    (.cons (.str (z ++ "abcdefgh") (by rw [Str.length_append]; omega) (ok_app okz (by decide +kernel))) ⟨lb, by simp [itD]⟩ (.cons sp ⟨sb, by simp [itD]⟩ (.cons sp ⟨sb, by simp [itD]⟩ (.cons sp ⟨sb, by simp [itD]⟩ .nil)))))))) (by simp) (fun p6 H6 e6 h6 a6 => ?_)
  walk_at "zz"
  have e56 := e5.trans e6
  refine d_one (D4.src.same e56) h6 a6 (by simp) (by simp) (fun v d7 H7 da7 r7 dd7 => ?_)
  exact q v d7 H7 da7 r7.1 r7.2 (D4.trans ((Dd.of_same D4.src e56).trans dd7))
/-- rows of tuples of m, names ahead, rising -/
structure RowsD (m : Nat) (ds : List PyData) : Prop where
  hd : ∀ x ∈ ds, ∃ (z : Str) (r : List PyData), x = .tuple (.str z :: r) ∧ r.length + 1 = m
  up : riseB (ds.map fun x => strD (firstD x)) = true
  few : ds.length ≤ 10
def Turned (m : Nat) (ds : List PyData) (d : PyData) : Prop := d = .list ds ∨ ∃ ds', d = .tuple ds' ∧ ds'.length ≤ 20 ∧ (riseB (ds'.map fun x => strD (firstD x)) = false ∨ ∃ x ∈ ds', tupD m x = false)
theorem put_mem {ds : List PyData} {k : Nat} {e : PyData} : e ∈ putD ds k e := by
  unfold putD
  simp
theorem put_len {ds : List PyData} {k : Nat} {e : PyData} : (putD ds k e).length ≤ ds.length + 1 := by
  unfold putD
  simp only [List.length_append, List.length_take, List.length_drop, List.length_cons, List.length_nil]
  omega
theorem twice_no {f : PyData → Str} {ds : List PyData} {k : Nat} {x : PyData} (h : ds[k]? = some x) : riseB ((ds.take k ++ [x] ++ ds.drop k).map f) = false := by
  refine no_of fun hr => ?_
  have pw := rise_pw hr
  obtain ⟨hk, e⟩ := List.getElem?_eq_some_iff.mp h
  rw [List.map_append, List.map_append, List.append_assoc] at pw
  have p2 := (List.pairwise_append.mp pw).2.1
  rw [List.drop_eq_getElem_cons hk, e] at p2
  exact txt_irr _ ((List.pairwise_cons.mp p2).1 (f x) (by simp))
theorem swap_no {f : PyData → Str} {ds : List PyData} {k : Nat} {x y : PyData} (hr : riseB (ds.map f) = true) (hx : ds[k]? = some x) (hy : ds[k + 1]? = some y) : riseB ((ds.take k ++ [y, x] ++ ds.drop (k + 2)).map f) = false := by
  refine no_of fun hs => ?_
  have pw := rise_pw hs
  have p0 := rise_pw hr
  rw [List.map_append, List.map_append, List.append_assoc] at pw
  have p2 := (List.pairwise_append.mp pw).2.1
  have lt := (List.pairwise_cons.mp p2).1 (f x) (by simp)
  obtain ⟨hk, e⟩ := List.getElem?_eq_some_iff.mp hx
  obtain ⟨hk2, e2⟩ := List.getElem?_eq_some_iff.mp hy
  have := List.pairwise_iff_getElem.mp p0 k (k + 1) (by rw [List.length_map]; exact hk) (by rw [List.length_map]; exact hk2) (by omega)
  rw [List.getElem_map, List.getElem_map, e, e2] at this
  exact lex_asym _ _ this lt
theorem tup_no {m : Nat} {xs : List PyData} (h : xs.length ≠ m) : tupD m (.tuple xs) = false := decide_eq_false h
def spTurned : Sp := fun vs H Q _ => ∃ (d : Addr) (v : V) (ds : List PyData) (m : Nat), vs = [.ref d, v] ∧ SrcD H d ∧ Da H v (.tuple ds) ∧ RowsD m ds ∧ 2 ≤ m ∧ m ≤ 10 ∧ 1 ≤ ds.length ∧ ∀ (v' : V) (d' : PyData) (H' : Hp), Da H' v' d' → Turned m ds d' → Dd d H H' → Q v' H'
theorem ok__law_turned {f : Addr} {fd : FuncData} (F : FnP K "_law_turned" s__law_turned f fd) (m_len : mg "len" = none) (m_list : mg "list" = none) (h__law_draw : Has P w K mg base 2 "_law_draw" ["_law_draw_here", "_law_many"] spDrawD) (h__law_one : Has P w K mg base 3 "_law_one" ["_law_draw_here", "_law_some"] spOneD) (h__law_put : Has P w K mg base 1 "_law_put" ["_law_row_here", "_law_k", "_law_one_here"] spPut) : FnOk P w K mg base CX0 4 f fd ["_law_draw_here", "_law_row_here"] spTurned := by
  refine F.ok sc__law_turned (fun vs H Q E h => ?_) (fun cdv A outer s0 H vs Q E hr h => ?_)
  · obtain ⟨d, v, ds, m, rfl, _⟩ := h; rfl
  obtain ⟨s, v, ds, m, rfl, hs, hv, rd, m2, m10, l1, q⟩ := h
  have few := rd.few
  refine ⟨_, PSs.nox (pss_cons (ps_set (i := 2) sc__law_turned.nd rfl (.inl rfl) (pe_callH h__law_draw (hr.mono (by decide)) (by rfl) (pa_cons (pv 0) (pa_cons (pe_callB (call_lenE K) (by rfl) m_len (by decide +kernel) (pa_cons (pv 1) pa_nil)) pa_nil))))
  (pss_cons (ps_set (i := 3) sc__law_turned.nd rfl (.inl rfl) (pe_callH h__law_draw (hr.mono (by decide)) (by rfl) (pa_cons (pv 0) (pa_cons pe_int pa_nil))))
  (pss_cons (ps_if (pt_cmpR op_eq (pv 3) pe_int (nomark _))
    (pss_one (ps_ret (pe_op (op_catE K) (pe_op (op_catE K) (pe_slice (sl_tupE K) (pv 1) po_none (po_some (pv 2))) (pe_slice (sl_tupE K) (pv 1) (po_some (pv 2)) (po_some (pe_op op_add (pv 2) pe_int)))) (pe_slice (sl_tupE K) (pv 1) (po_some (pv 2)) po_none))))
    pss_nil)
  (pss_cons (ps_if (PW.pt (pw_and (pt_cmpR op_eq (pv 3) pe_int (nomark _)) (pw_and1 (pt_cmpR op_gt (pv 2) pe_int (nomark _)))))
    (pss_one (ps_ret (pe_op (op_catE K) (pe_op (op_catE K) (pe_slice (sl_tupE K) (pv 1) po_none (po_some (pe_op op_sub (pv 2) pe_int))) (pe_tup (pa_cons (pe_ix (ix_tupE K) (pv 1) (pv 2) (fun _ _ => rfl)) (pa_cons (pe_ix (ix_tupE K) (pv 1) (pe_op op_sub (pv 2) pe_int) (fun _ _ => rfl)) pa_nil)))) (pe_slice (sl_tupE K) (pv 1) (po_some (pe_op op_add (pv 2) pe_int)) po_none))))
    pss_nil)
  (pss_cons (ps_if (pt_cmpR op_eq (pv 3) pe_int (nomark _))
    (pss_one (ps_ret (pe_callTy (call_listE K) (by rfl) m_list (by decide +kernel) (pa_cons (pv 1) pa_nil))))
    pss_nil)
  (pss_one (ps_ret (pe_callH h__law_put (hr.mono (by decide)) (by rfl) (pa_cons (pv 1) (pa_cons (pv 2) (pa_cons (pe_callH h__law_one (hr.mono (by decide)) (by rfl) (pa_cons (pv 0) (pa_cons (pe_lst (pa_cons pe_non (pa_cons (pe_tup pa_nil) (pa_cons (pe_callTy (call_listE K) (by rfl) m_list (by decide +kernel) (pa_cons (pe_ix (ix_tupE K) (pv 1) (pv 2) (fun _ _ => rfl)) pa_nil)) (pa_cons (pe_op (op_catE K) (pe_ix (ix_tupE K) (pv 1) (pv 2) (fun _ _ => rfl)) (pe_tup (pa_cons pe_int pa_nil))) (pa_cons (pe_slice (sl_tupE K) (pe_ix (ix_tupE K) (pv 1) (pv 2) (fun _ _ => rfl)) po_none (po_some (pe_un un_neg pe_int))) (pa_cons pe_int pa_nil))))))) pa_nil))) pa_nil))))))))))), ?_⟩
  walk_at "zz"
  refine d_len hv ?_
  walk_at "zz"
  refine ⟨s, _, rfl, by omega, hs, fun r1 H1 r10 r11 d1 => ?_⟩
  obtain ⟨k, rfl⟩ : ∃ j : Nat, r1 = (j : Int) := ⟨r1.toNat, by omega⟩
  have hk : k < ds.length := by omega
  obtain ⟨x, hx⟩ : ∃ x, ds[k]? = some x := ⟨_, List.getElem?_eq_getElem hk⟩
  walk_at "zz"
  refine ⟨s, _, rfl, by decide, d1.src, fun r2 H2 r20 r21 d2 => ?_⟩
  have D2 := d1.trans d2
  have v2 := hv.mv (KD.of_dd D2)
  walk_at "zz"
  refine z_ite (fun h0 => ?_) (fun h0 => ?_)
  · walk_at "zz"
    refine d_sl v2 (fun p3 H3 e3 a3 => ?_)
    rw [cutL_to] at a3
    walk_at "zz"
    refine d_sl (v2.mv (KD.of_same e3)) (fun p4 H4 e4 a4 => ?_)
    rw [cutL_one hx] at a4
    refine d_cat (a3.mv (KD.of_same e4)) a4 (by simp only [List.length_take, List.length_cons, List.length_nil]; omega) (fun p5 H5 e5 a5 => ?_)
    walk_at "zz"
    refine d_sl (v2.mv (KD.of_same (e3.trans (e4.trans e5)))) (fun p6 H6 e6 a6 => ?_)
    rw [cutL_frm] at a6
    refine d_cat (a5.mv (KD.of_same e6)) a6 (by simp only [List.length_append, List.length_take, List.length_drop, List.length_cons, List.length_nil]; omega) (fun p7 H7 e7 a7 => ?_)
    refine q _ _ H7 a7 (.inr ⟨_, rfl, by simp only [List.length_append, List.length_take, List.length_drop, List.length_cons, List.length_nil]; omega, .inl (twice_no hx)⟩) (D2.trans (Dd.of_same D2.src (e3.trans (e4.trans (e5.trans (e6.trans e7))))))
  · walk_at "zy"
    refine cutT (fun b H' => H2 = H' ∧ b = decide (r2 = 1 ∧ 0 < k)) (fun Q' hQ' => ?_) ?_
    · walk_at "zz"
      refine z_ite (fun h1 => ?_) (fun h1 => ?_)
      · walk_at "zz"
        refine hQ' _ _ ⟨rfl, decide_eq_decide.mpr ⟨fun h => ⟨h1, by omega⟩, fun h => by omega⟩⟩
      · exact hQ' _ _ ⟨rfl, (decide_eq_false (fun h => h1 h.1)).symm⟩
    rintro b H' ⟨rfl, rfl⟩
    refine z_ite (fun h1 => ?_) (fun h1 => ?_)
    · obtain ⟨rfl, k0⟩ := h1
      obtain ⟨j, rfl⟩ : ∃ j, k = j + 1 := ⟨k - 1, by omega⟩
      obtain ⟨y, hy⟩ : ∃ y, ds[j]? = some y := ⟨_, List.getElem?_eq_getElem (by omega)⟩
      have ej : (((j + 1 : Nat) : Int) - 1) = (j : Int) := by omega
      walk_at "zz"
      rw [ej]
      refine d_sl v2 (fun p3 H3 e3 a3 => ?_)
      rw [cutL_to] at a3
      walk_at "zz"
      refine d_ix (v2.mv (KD.of_same e3)) hx (fun wx ax => ?_)
      walk_at "zz"
      rw [ej]
      refine d_ix (v2.mv (KD.of_same e3)) hy (fun wy ay => ?_)
      walk_at "zz"
      refine d_tup (.cons ax (.cons ay .nil)) (by simp) (fun p4 H4 e4 a4 => ?_)
      refine d_cat (a3.mv (KD.of_same e4)) a4 (by simp only [List.length_take, List.length_cons, List.length_nil]; omega) (fun p5 H5 e5 a5 => ?_)
      walk_at "zz"
      refine d_sl (v2.mv (KD.of_same (e3.trans (e4.trans e5)))) (fun p6 H6 e6 a6 => ?_)
      rw [show (((j + 1 : Nat) : Int) + 1) = ((j + 2 : Nat) : Int) by omega, cutL_frm] at a6
      refine d_cat (a5.mv (KD.of_same e6)) a6 (by simp only [List.length_append, List.length_take, List.length_drop, List.length_cons, List.length_nil]; omega) (fun p7 H7 e7 a7 => ?_)
      refine q _ _ H7 a7 (.inr ⟨_, rfl, by simp only [List.length_append, List.length_take, List.length_drop, List.length_cons, List.length_nil]; omega, .inl (swap_no rd.up hy hx)⟩) (D2.trans (Dd.of_same D2.src (e3.trans (e4.trans (e5.trans (e6.trans e7))))))
    · walk_at "zz"
      refine z_ite (fun h2 => ?_) (fun h2 => ?_)
      · walk_at "zz"
        refine d_list v2 (fun p3 H3 e3 a3 => ?_)
        exact q _ _ H3 a3 (.inl rfl) (D2.trans (Dd.of_same D2.src e3))
      · obtain ⟨z, r, rfl, hr1⟩ := rd.hd x (List.mem_of_getElem? hx)
        walk_at "zz"
        refine d_tup .nil (by simp) (fun p3 H3 e3 a3 => ?_)
        walk_at "zz"
        have v3 := v2.mv (KD.of_same e3)
        refine d_ix v3 hx (fun w4 a4 => ?_)
        walk_at "zz"
        refine d_list a4 (fun p5 H5 e5 a5 => ?_)
        walk_at "zz"
        have v5 := v3.mv (KD.of_same e5)
        refine d_ix v5 hx (fun w6 a6 => ?_)
        walk_at "zz"
        refine d_tup (.cons (.int 0) .nil) (by simp) (fun p7 H7 e7 a7 => ?_)
        refine d_cat (a6.mv (KD.of_same e7)) a7 (by simp only [List.length_cons, List.length_nil]; omega) (fun p8 H8 e8 a8 => ?_)
        walk_at "zz"
        have v8 := v5.mv (KD.of_same (e7.trans e8))
        refine d_ix v8 hx (fun w9 a9 => ?_)
        walk_at "zz"
        refine d_sl a9 (fun pa Ha ea aa => ?_)
        rw [cutL_last] at aa
        walk_at "zz"
        have f8 := KD.of_same ea
        have f5 := (KD.of_same (e7.trans e8)).trans f8
        have f3 := (KD.of_same e5).trans f5
        refine d_menu (R := fun d => tupD m d = false) (.cons .non rfl (.cons (a3.mv f3) (tup_no (by simp; omega)) (.cons (a5.mv f5) rfl (.cons (a8.mv f8) (tup_no (by simp; omega)) (.cons aa (tup_no (by simp; omega)) (.cons (.int 5) rfl .nil)))))) (by simp) (fun pb Hb eb hb ab => ?_)
        walk_at "zz"
        have fall := e3.trans (e5.trans (e7.trans (e8.trans (ea.trans eb))))
        refine d_one (D2.src.same fall) hb ab (by simp) (by simp) (fun vc dc Hc ac rc ddc => ?_)
        have Dc := D2.trans ((Dd.of_same D2.src fall).trans ddc)
        walk_at "zz"
        refine ⟨_, _, _, k, _, rfl, hv.mv (KD.of_dd Dc), ac, by omega, fun p9 H9 e9 a9' => ?_⟩
        refine q _ _ H9 a9' (.inr ⟨_, rfl, by have := put_len (ds := ds) (k := k) (e := dc); omega, .inr ⟨_, put_mem, rc⟩⟩) (Dc.trans (Dd.of_same Dc.src e9))
theorem d_lst {H : Hp} {Q : VK} {ds : List PyData} {vs : List V} (g : DaAll H vs ds) (hl : ds.length ≤ 1000) (q : ∀ p H', Same H H' → Da H' (.ref p) (.list ds) → Q (.ref p) H') : NewO HO.lst vs H Q :=
  z_new (by rw [g.len]; exact hl) fun p H' _ e h => q p H' e (.lst h (DaAll.mv (KD.of_same e) g))
theorem Da.pairI {H : Hp} {v : V} {a b : Int} (h : Da H v (.tuple [.int a, .int b])) : ∃ p, v = .ref p ∧ H p = some (.tup [.int a, .int b]) := by
  obtain ⟨p, xs, rfl, hp, g⟩ := h.tupE
  rcases g with _ | ⟨a1, g⟩
  rcases g with _ | ⟨a2, g⟩
  cases g
  cases a1.intE
  cases a2.intE
  exact ⟨p, rfl, hp⟩
theorem acc_shape {n : Nat} {d : PyData} (h : accD n d = true) : ∃ z s g r t q, d = .tuple [z, s, g, r, t, q] ∧ nameD z = true ∧ seenD s = true ∧ countD 0 g = true ∧ rowD n r = true ∧ countD 0 t = true ∧ rowD n q = true := by
  unfold accD at h
  split at h
  · simp only [Bool.and_eq_true] at h
    obtain ⟨h1, h2, h3, h4, h5, h6⟩ := h
    exact ⟨_, _, _, _, _, _, rfl, h1, h2, h3, h4, h5, h6⟩
  · cases h
theorem row_shape {n : Nat} {d : PyData} (h : rowD n d = true) : ∃ ps, d = .tuple ps ∧ ps.length = n ∧ ∀ x ∈ ps, ∃ a b, x = .tuple [.int a, .int b] ∧ ptB a b = true := by
  unfold rowD at h
  rw [Bool.and_eq_true] at h
  obtain ⟨ps, rfl, hl⟩ := tup_isT h.1
  refine ⟨ps, rfl, hl, fun x hx => ?_⟩
  have := List.all_eq_true.mp h.2 x hx
  unfold partD at this
  split at this
  · exact ⟨_, _, rfl, this⟩
  · cases this
theorem row_no {n : Nat} {ps : List PyData} (h : ps.length ≠ n) : rowD n (.tuple ps) = false := by
  unfold rowD
  rw [tup_no h]
  rfl
theorem row_no2 {n : Nat} {ps : List PyData} {x : PyData} (hx : x ∈ ps) (h : partD x = false) : rowD n (.tuple ps) = false := by
  refine no_of fun ht => ?_
  unfold rowD at ht
  rw [Bool.and_eq_true] at ht
  have := List.all_eq_true.mp ht.2 x hx
  rw [h] at this
  cases this
theorem z_in24 {H : Hp} {Q : VK} {p : Addr} {k : Int} (h : H p = some (.tup [.int 2, .int 4])) (q : Q (.bl (decide (k = 2 ∨ k = 4))) H) : rIn K false (.int k) (.ref p) H Q := by
  refine ⟨p, _, rfl, .inr (SqT.of h), rfl, rfl, ?_⟩
  have e : (if false = true then !inV (V.int k) [.int 2, .int 4] else inV (V.int k) [.int 2, .int 4]) = decide (k = 2 ∨ k = 4) := by
    show inV (V.int k) [.int 2, .int 4] = _
    unfold inV
    have e2 : ∀ c : Int, eqV (.int c) (.int k) = decide (k = c) := fun c => by
      by_cases h : k = c
      · rw [h]; simp [eqV]
      · rw [decide_eq_false h]
        simp [eqV]
        exact fun q => h q.symm
    rw [List.any_cons, List.any_cons, List.any_nil, e2, e2]
    by_cases h2 : k = 2 <;> by_cases h4 : k = 4 <;> simp [h2, h4]
  rw [e]
  exact q
def spAccOdd : Sp := fun vs H Q _ => ∃ (d : Addr) (v : V) (e : PyData) (n : Nat), vs = [.ref d, v] ∧ SrcD H d ∧ Da H v e ∧ accD n e = true ∧ 1 ≤ n ∧ n ≤ 4 ∧ ∀ (v' : V) (d' : PyData) (H' : Hp), Da H' v' d' → accD n d' = false → Dd d H H' → Q v' H'
theorem ok__law_account_odd {f : Addr} {fd : FuncData} (F : FnP K "_law_account_odd" s__law_account_odd f fd) (m_len : mg "len" = none) (m_list : mg "list" = none) (h__law_draw : Has P w K mg base 2 "_law_draw" ["_law_draw_here", "_law_many"] spDrawD) (h__law_one : Has P w K mg base 3 "_law_one" ["_law_draw_here", "_law_some"] spOneD) (h__law_put : Has P w K mg base 1 "_law_put" ["_law_row_here", "_law_k", "_law_one_here"] spPut) : FnOk P w K mg base CX0 4 f fd ["_law_draw_here", "_law_one_here"] spAccOdd := by
  refine F.ok sc__law_account_odd (fun vs H Q E h => ?_) (fun cdv A outer s0 H vs Q E hr h => ?_)
  · obtain ⟨d, v, e, n, rfl, _⟩ := h; rfl
  obtain ⟨s, v, e, n, rfl, hs, hv, ha, n1, n4, q⟩ := h
  obtain ⟨z, sn, g, r, t, u, rfl, b1, b2, b3, b4, b5, b6⟩ := acc_shape ha
  refine ⟨_, PSs.nox (pss_cons (ps_set (i := 2) sc__law_account_odd.nd rfl (.inl rfl) (pe_op op_add pe_int (pe_callH h__law_draw (hr.mono (by decide)) (by rfl) (pa_cons (pv 0) (pa_cons pe_int pa_nil)))))
  (pss_cons (ps_if (pt_cmpR op_eq (pv 2) pe_int (nomark _))
    (pss_cons (ps_set (i := 3) sc__law_account_odd.nd rfl (.inl rfl) (pe_lst (pa_cons (pe_tup (pa_cons pe_int (pa_cons pe_int pa_nil))) (pa_cons (pe_tup (pa_cons pe_int (pa_cons (pe_un un_neg pe_int) pa_nil))) (pa_cons (pe_tup (pa_cons pe_int pa_nil)) (pa_cons (pe_tup (pa_cons pe_int (pa_cons pe_int (pa_cons pe_int pa_nil)))) (pa_cons (pe_lst (pa_cons pe_int (pa_cons pe_int pa_nil))) (pa_cons (pe_tup (pa_cons pe_bl (pa_cons pe_int pa_nil))) (pa_cons pe_int (pa_cons (pe_tup (pa_cons pe_str (pa_cons pe_int pa_nil))) (pa_cons (pe_tup (pa_cons pe_int (pa_cons pe_non pa_nil))) pa_nil)))))))))))
  (pss_one (ps_ret (pe_callH h__law_put (hr.mono (by decide)) (by rfl) (pa_cons (pv 1) (pa_cons pe_int (pa_cons (pe_callH h__law_one (hr.mono (by decide)) (by rfl) (pa_cons (pv 0) (pa_cons (pv 3) pa_nil))) pa_nil)))))))
    pss_nil)
  (pss_cons (ps_if (pt_cmpR (op_inE K) (pv 2) (pe_tup (pa_cons pe_int (pa_cons pe_int pa_nil))) (by rfl))
    (pss_one (ps_ret (pe_callH h__law_put (hr.mono (by decide)) (by rfl) (pa_cons (pv 1) (pa_cons (pv 2) (pa_cons (pe_callH h__law_one (hr.mono (by decide)) (by rfl) (pa_cons (pv 0) (pa_cons (pe_lst (pa_cons (pe_un un_neg pe_int) (pa_cons pe_non (pa_cons pe_bl (pa_cons pe_str (pa_cons (pe_tup (pa_cons pe_int pa_nil)) pa_nil)))))) pa_nil))) pa_nil))))))
    pss_nil)
  (pss_cons (ps_set (i := 4) sc__law_account_odd.nd rfl (.inl rfl) (pe_ix (ix_tupE K) (pv 1) (pv 2) (fun _ _ => rfl)))
  (pss_cons (ps_set (i := 5) sc__law_account_odd.nd rfl (.inl rfl) (pe_callH h__law_draw (hr.mono (by decide)) (by rfl) (pa_cons (pv 0) (pa_cons (pe_callB (call_lenE K) (by rfl) m_len (by decide +kernel) (pa_cons (pv 4) pa_nil)) pa_nil))))
  (pss_cons (ps_asg (pe_ix (ix_tupE K) (pv 4) (pv 5) (fun _ _ => rfl)) (pg_tup rfl (pgs_cons (pg_name (i := 6) sc__law_account_odd.nd rfl (.inl rfl)) (pgs_cons (pg_name (i := 7) sc__law_account_odd.nd rfl (.inl rfl)) pgs_nil))))
  (pss_cons (ps_set (i := 3) sc__law_account_odd.nd rfl (.inl rfl) (pe_lst (pa_cons (pe_tup (pa_cons (pe_op op_mulA pe_int (pv 6)) (pa_cons (pe_op op_add (pv 7) pe_int) pa_nil))) (pa_cons (pe_tup (pa_cons (pv 6) (pa_cons (pe_op op_sub (pe_un un_neg pe_int) (pv 7)) pa_nil))) (pa_cons (pe_tup (pa_cons (pv 6) pa_nil)) (pa_cons (pe_tup (pa_cons (pv 6) (pa_cons (pv 7) (pa_cons pe_int pa_nil)))) (pa_cons (pe_lst (pa_cons (pv 6) (pa_cons (pv 7) pa_nil))) (pa_cons (pv 6) (pa_cons (pe_tup (pa_cons pe_int (pa_cons pe_int pa_nil))) (pa_cons (pe_tup (pa_cons pe_bl (pa_cons pe_int pa_nil))) (pa_cons (pe_tup (pa_cons pe_int (pa_cons pe_bl pa_nil))) pa_nil)))))))))))
  (pss_cons (ps_set (i := 3) sc__law_account_odd.nd rfl (.inl rfl) (pe_callH h__law_one (hr.mono (by decide)) (by rfl) (pa_cons (pv 0) (pa_cons (pe_op op_cat (pv 3) (pe_lst (pa_cons pe_non pa_nil))) pa_nil))))
  (pss_one (ps_ret (pe_callH h__law_put (hr.mono (by decide)) (by rfl) (pa_cons (pv 1) (pa_cons (pv 2) (pa_cons (pe_callH h__law_one (hr.mono (by decide)) (by rfl) (pa_cons (pv 0) (pa_cons (pe_lst (pa_cons (pe_slice (sl_tupE K) (pv 4) po_none (po_some (pe_un un_neg pe_int))) (pa_cons (pe_op (op_catE K) (pv 4) (pe_slice (sl_tupE K) (pv 4) po_none (po_some pe_int))) (pa_cons (pe_callTy (call_listE K) (by rfl) m_list (by decide +kernel) (pa_cons (pv 4) pa_nil)) (pa_cons (pe_callH h__law_put (hr.mono (by decide)) (by rfl) (pa_cons (pv 4) (pa_cons (pv 5) (pa_cons (pv 3) pa_nil)))) pa_nil))))) pa_nil))) pa_nil)))))))))))))), ?_⟩
  walk_at "zz"
  refine ⟨s, _, rfl, by decide, hs, fun r1 H1 r10 r11 d1 => ?_⟩
  obtain ⟨k, hk⟩ : ∃ j : Nat, 1 + r1 = (j : Int) := ⟨(1 + r1).toNat, by omega⟩
  have v1 := hv.mv (KD.of_dd d1)
  walk_at "zz"
  rw [hk]
  refine z_ite (fun h1 => ?_) (fun h1 => ?_)
  · walk_at "zz"
    refine d_tup (.cons (.int 0) (.cons (.int 0) .nil)) (by simp) (fun p2 H2 e2 a2 => ?_)
    walk_at "zz"
    refine d_tup (.cons (.int 1) (.cons (.int (-1)) .nil)) (by simp) (fun p3 H3 e3 a3 => ?_)
    walk_at "zz"
    refine d_tup (.cons (.int 1) .nil) (by simp) (fun p4 H4 e4 a4 => ?_)
    walk_at "zz"
    refine d_tup (.cons (.int 1) (.cons (.int 0) (.cons (.int 0) .nil))) (by simp) (fun p5 H5 e5 a5 => ?_)
    walk_at "zz"
    refine d_lst (.cons (.int 1) (.cons (.int 0) .nil)) (by simp) (fun p6 H6 e6 a6 => ?_)
    walk_at "zz"
    refine d_tup (.cons (.bl true) (.cons (.int 0) .nil)) (by simp) (fun p7 H7 e7 a7 => ?_)
    walk_at "zz"
    refine d_tup (.cons (.str "1" (by decide +kernel) (by decide +kernel)) (.cons (.int 0) .nil)) (by simp) (fun p8 H8 e8 a8 => ?_)
    walk_at "zz"
    refine d_tup (.cons (.int 1) (.cons .non .nil)) (by simp) (fun p9 H9 e9 a9 => ?_)
    walk_at "zz"
    have f8 := KD.of_same e9
    have f7 := (KD.of_same e8).trans f8
    have f6 := (KD.of_same e7).trans f7
    have f5 := (KD.of_same e6).trans f6
    have f4 := (KD.of_same e5).trans f5
    have f3 := (KD.of_same e4).trans f4
    have f2 := (KD.of_same e3).trans f3
    refine d_menu (R := fun d => seenD d = false) (.cons (a2.mv f2) rfl (.cons (a3.mv f3) rfl (.cons (a4.mv f4) rfl (.cons (a5.mv f5) rfl (.cons (a6.mv f6) rfl (.cons (a7.mv f7) rfl (.cons (.int 5) rfl (.cons (a8.mv f8) rfl (.cons a9 rfl .nil))))))))) (by simp) (fun pa Ha ea hha aa => ?_)
    walk_at "zz"
    have fall := e2.trans (e3.trans (e4.trans (e5.trans (e6.trans (e7.trans (e8.trans (e9.trans ea)))))))
    refine d_one (d1.src.same fall) hha aa (by simp) (by simp) (fun vb db Hb ab rb ddb => ?_)
    have Db := d1.trans ((Dd.of_same d1.src fall).trans ddb)
    walk_at "zz"
    refine ⟨_, _, _, 1, _, rfl, hv.mv (KD.of_dd Db), ab, by simp, fun pc Hc ec ac => ?_⟩
    refine q _ _ Hc ac ?_ (Db.trans (Dd.of_same Db.src ec))
    show (nameD z && (seenD db && _)) = false
    rw [rb]
    simp
  · walk_at "zz"
    refine z_new (by simp) (fun p2 H2 n2 e2 h2 => ?_)
    refine z_in24 h2 ?_
    have v2 := v1.mv (KD.of_same e2)
    walk_at "zz"
    refine z_ite (fun h24 => ?_) (fun h24 => ?_)
    · walk_at "zz"
      refine d_tup (.cons (.int 1) .nil) (by simp) (fun p3 H3 e3 a3 => ?_)
      walk_at "zz"
      refine d_menu (R := fun d => countD 0 d = false) (.cons (.int (-1)) rfl (.cons .non rfl (.cons (.bl true) rfl (.cons (.str "1" (by decide +kernel) (by decide +kernel)) rfl (.cons a3 rfl .nil))))) (by simp) (fun pa Ha ea hha aa => ?_)
      walk_at "zz"
      have fall := e2.trans (e3.trans ea)
      refine d_one (d1.src.same fall) hha aa (by simp) (by simp) (fun vb db Hb ab rb ddb => ?_)
      have Db := d1.trans ((Dd.of_same d1.src fall).trans ddb)
      walk_at "zz"
      refine ⟨_, _, _, k, _, rfl, hv.mv (KD.of_dd Db), ab, by simp, fun pc Hc ec ac => ?_⟩
      refine q _ _ Hc ac ?_ (Db.trans (Dd.of_same Db.src ec))
      rcases (show k = 2 ∨ k = 4 by omega) with rfl | rfl
      · show (nameD z && (seenD sn && (countD 0 db && _))) = false
        rw [rb]
        simp
      · show (nameD z && (seenD sn && (countD 0 g && (rowD n r && (countD 0 db && _))))) = false
        rw [rb]
        simp
    · obtain ⟨rr, hrr, brr⟩ : ∃ rr, ([z, sn, g, r, t, u] : List PyData)[k]? = some rr ∧ rowD n rr = true := by
        rcases (show k = 3 ∨ k = 5 by omega) with rfl | rfl
        · exact ⟨r, rfl, b4⟩
        · exact ⟨u, rfl, b6⟩
      obtain ⟨ps, rfl, lps, ptp⟩ := row_shape brr
      walk_at "zz"
      refine d_ix v2 hrr (fun wr ar => ?_)
      walk_at "zz"
      refine d_len ar ?_
      walk_at "zz"
      refine ⟨s, _, rfl, by omega, d1.src.same e2, fun r3 H3 r30 r31 d3 => ?_⟩
      obtain ⟨j, rfl⟩ : ∃ j : Nat, r3 = (j : Int) := ⟨r3.toNat, by omega⟩
      have ar3 := ar.mv (KD.of_dd d3)
      obtain ⟨x, hx⟩ : ∃ x, ps[j]? = some x := ⟨_, List.getElem?_eq_getElem (by omega)⟩
      obtain ⟨a, b, rfl, hab⟩ := ptp x (List.mem_of_getElem? hx)
      have b0 : 0 ≤ b := by
        unfold ptB at hab
        rw [Bool.or_eq_true, Bool.and_eq_true, decide_eq_true_eq, decide_eq_true_eq] at hab
        omega
      have D3 := d1.trans ((Dd.of_same d1.src e2).trans d3)
      walk_at "zz"
      refine d_ix ar3 hx (fun wx ax => ?_)
      obtain ⟨px, rfl, hpx⟩ := ax.pairI
      walk_at "zz"
      refine z_gTup (SqT.of hpx) rfl ?_
      walk_at "zz"
      refine z_mulA (mulL (by decide)) ?_
      walk_at "zz"
      refine d_tup (.cons (.int _) (.cons (.int _) .nil)) (by simp) (fun p4 H4 e4 a4 => ?_)
      walk_at "zz"
      refine d_tup (.cons (.int _) (.cons (.int _) .nil)) (by simp) (fun p5 H5 e5 a5 => ?_)
      walk_at "zz"
      refine d_tup (.cons (.int _) .nil) (by simp) (fun p6 H6 e6 a6 => ?_)
      walk_at "zz"
      refine d_tup (.cons (.int _) (.cons (.int _) (.cons (.int _) .nil))) (by simp) (fun p7 H7 e7 a7 => ?_)
      walk_at "zz"
      refine d_lst (.cons (.int _) (.cons (.int _) .nil)) (by simp) (fun p8 H8 e8 a8 => ?_)
      walk_at "zz"
      refine d_tup (.cons (.int 0) (.cons (.int 2) .nil)) (by simp) (fun p9 H9 e9 a9 => ?_)
      walk_at "zz"
      refine d_tup (.cons (.bl true) (.cons (.int 0) .nil)) (by simp) (fun pa Ha ea aa => ?_)
      walk_at "zz"
      refine d_tup (.cons (.int 1) (.cons (.bl true) .nil)) (by simp) (fun pb Hb eb ab => ?_)
      walk_at "zz"
      have fa := KD.of_same eb
      have f9 := (KD.of_same ea).trans fa
      have f8 := (KD.of_same e9).trans f9
      have f7 := (KD.of_same e8).trans f8
      have f6 := (KD.of_same e7).trans f7
      have f5 := (KD.of_same e6).trans f6
      have f4 := (KD.of_same e5).trans f5
      have w4 : partD (.tuple [.int (2 * a), .int (b + 1)]) = false := by
        show ptB (2 * a) (b + 1) = false
        unfold ptB
        rw [decide_eq_false (by omega), decide_eq_false (show ¬ 2 * a % 2 = 1 by omega)]
        simp
      have w5 : partD (.tuple [.int a, .int (-1 - b)]) = false := by
        show ptB a (-1 - b) = false
        unfold ptB
        rw [decide_eq_false (by omega), decide_eq_false (show ¬ 0 < -1 - b by omega)]
        simp
      refine d_menu (R := fun d => partD d = false) (.cons (a4.mv f4) w4 (.cons (a5.mv f5) w5 (.cons (a6.mv f6) rfl (.cons (a7.mv f7) rfl (.cons (a8.mv f8) rfl (.cons (.int a) rfl (.cons (a9.mv f9) rfl (.cons (aa.mv fa) rfl (.cons ab rfl .nil))))))))) (by simp) (fun pc Hc ec hc ac => ?_)
      walk_at "zz"
      refine d_menu (R := fun d => partD d = false) (.cons .non rfl .nil) (by simp) (fun pd Hd ed hd ad => ?_)
      refine z_cat (ed _ _ hc) hd (by simp) (fun pe He ne ee he => ?_)
      walk_at "zz"
      have fe := e4.trans (e5.trans (e6.trans (e7.trans (e8.trans (e9.trans (ea.trans (eb.trans (ec.trans (ed.trans ee)))))))))
      refine d_one (D3.src.same fe) he ((ac.mv (KD.of_same (ed.trans ee))).app (ad.mv (KD.of_same ee))) (by simp) (by simp) (fun vf df Hf af rf ddf => ?_)
      have Df := D3.trans ((Dd.of_same D3.src fe).trans ddf)
      have arf := (ar3.mv (KD.of_same fe)).mv (KD.of_dd ddf)
      walk_at "zz"
      refine d_sl arf (fun pg Hg eg ag => ?_)
      rw [cutL_last] at ag
      walk_at "zz"
      refine d_sl (arf.mv (KD.of_same eg)) (fun ph Hh eh ah => ?_)
      rw [show (1 : Int) = ((1 : Nat) : Int) from rfl, cutL_to] at ah
      refine d_cat (arf.mv (KD.of_same (eg.trans eh))) ah (by rw [List.length_take]; omega) (fun pi Hi ei ai => ?_)
      walk_at "zz"
      refine d_list (arf.mv (KD.of_same (eg.trans (eh.trans ei)))) (fun pj Hj ej aj => ?_)
      walk_at "zz"
      have kj := KD.of_same (eg.trans (eh.trans (ei.trans ej)))
      refine ⟨_, _, _, j, _, rfl, arf.mv kj, af.mv kj, by omega, fun pk Hk ek ak => ?_⟩
      walk_at "zz"
      have gj := KD.of_same ek
      have gi := (KD.of_same ej).trans gj
      have gg := (KD.of_same (eh.trans ei)).trans gi
      refine d_menu (R := fun d => rowD n d = false) (.cons (ag.mv gg) (row_no (by rw [List.length_dropLast]; omega)) (.cons (ai.mv gi) (row_no (by rw [List.length_append, List.length_take]; omega)) (.cons (aj.mv gj) rfl (.cons ak (row_no2 put_mem rf) .nil)))) (by simp) (fun pl Hl el hl al => ?_)
      walk_at "zz"
      have fl := eg.trans (eh.trans (ei.trans (ej.trans (ek.trans el))))
      refine d_one (Df.src.same fl) hl al (by simp) (by simp) (fun vm dm Hm am rm ddm => ?_)
      have Dm := Df.trans ((Dd.of_same Df.src fl).trans ddm)
      walk_at "zz"
      refine ⟨_, _, _, k, _, rfl, hv.mv (KD.of_dd Dm), am, by simp, fun pn Hn en an => ?_⟩
      refine q _ _ Hn an ?_ (Dm.trans (Dd.of_same Dm.src en))
      rcases (show k = 3 ∨ k = 5 by omega) with rfl | rfl
      · show (nameD z && (seenD sn && (countD 0 g && (rowD n dm && _)))) = false
        rw [rm]
        simp
      · show (nameD z && (seenD sn && (countD 0 g && (rowD n r && (countD 0 t && rowD n dm))))) = false
        rw [rm]
        simp
theorem DaAll.rep {H : Hp} {v : V} {d : PyData} (h : Da H v d) : ∀ k : Nat, DaAll H (List.replicate k v) (List.replicate k d)
  | 0 => .nil
  | k + 1 => .cons h (DaAll.rep h k)
theorem d_rep {H : Hp} {Q : VK} {v : V} {d : PyData} {k : Nat} (a : Da H v (.tuple [d])) (h1 : 1 ≤ k) (h2 : k ≤ 1000) (q : ∀ p H', Same H H' → Da H' (.ref p) (.tuple (List.replicate k d)) → Q (.ref p) H') : rRep1 K v (.int (k : Int)) H Q ∨ rRepT K v (.int (k : Int)) H Q := by
  obtain ⟨p, xs, rfl, hp, g⟩ := id a.tupE
  by_cases e : k = 1
  · subst e
    exact .inl ⟨p, xs, rfl, rfl, SqT.of hp, q p H Same.rfl_ a⟩
  · rcases g with _ | ⟨a1, g⟩
    cases g
    rename_i x
    refine .inr ⟨p, (k : Int), [x], rfl, rfl, SqT.of hp, by simp, by omega, by omega, by simp, fun p' hp' => q p' _ (same_upd hp') (.tup upd_same ?_)⟩
    rw [Int.toNat_natCast, List.flatten_replicate_singleton]
    exact DaAll.rep (a1.mv (KD.of_same (same_upd hp'))) k
theorem entry_shape {n : Nat} {d : PyData} (h : entryD n d = true) : ∃ z l v us os, d = .tuple [.str z, .int l, .int v, .tuple us, .tuple os] ∧ nmB z = true ∧ 1 ≤ l ∧ 1 ≤ v ∧ numsD (.tuple us) = true ∧ us.length = n ∧ othersD z (.tuple os) = true := by
  unfold entryD at h
  split at h
  · rename_i z l v u o
    simp only [Bool.and_eq_true] at h
    obtain ⟨h1, h2, h3, h4, h5, h6⟩ := h
    have e1 := name_str h1
    obtain ⟨i, rfl⟩ := count_int h2
    obtain ⟨j, rfl⟩ := count_int h3
    obtain ⟨us, rfl⟩ := nums_T h4
    have h6' := h6
    unfold othersD at h6'
    rw [Bool.and_eq_true] at h6'
    obtain ⟨os, rfl⟩ := isT h6'.1
    rw [e1] at h1
    refine ⟨strD z, i, j, us, os, by rw [← e1], h1, of_decide_eq_true h2, of_decide_eq_true h3, h4, of_decide_eq_true h5, h6⟩
  · cases h
structure OthP (own : Str) (os : List PyData) : Prop where
  nm : ∀ x ∈ os, nameD x = true
  no : own ∉ os.map strD
  up : riseB (os.map strD) = true
theorem oth_split {own : Str} {os : List PyData} (h : othersD own (.tuple os) = true) : OthP own os := by
  unfold othersD at h
  rw [Bool.and_eq_true, Bool.and_eq_true, Bool.and_eq_true, Bool.not_eq_true', decide_eq_false_iff_not] at h
  exact ⟨List.all_eq_true.mp h.2.1, h.2.2.1, h.2.2.2⟩
theorem oth_of {own : Str} {os : List PyData} (h : OthP own os) : othersD own (.tuple os) = true := by
  unfold othersD
  rw [show isTupD (.tuple os) = true from rfl, show itD (.tuple os) = os from rfl, List.all_eq_true.mpr h.nm, decide_eq_false h.no, h.up]
  rfl
theorem oth_no {own : Str} {os : List PyData} (h : OthP own os → False) : othersD own (.tuple os) = false := no_of fun ht => h (oth_split ht)
theorem nums_len {us : List PyData} (h : numsD (.tuple us) = true) : 1 ≤ us.length ∧ us.length ≤ 3 ∧ ∀ x ∈ us, ownD x = true := by
  have h : nuB (us.map ownD) = true := h
  unfold nuB at h
  simp only [Bool.and_eq_true, decide_eq_true_eq, List.length_map] at h
  refine ⟨h.1, h.2.1, fun x hx => ?_⟩
  have := List.all_eq_true.mp h.2.2 (ownD x) (List.mem_map.mpr ⟨x, hx, rfl⟩)
  simpa using this
theorem nums_no {us : List PyData} {x : PyData} (hx : x ∈ us) (h : ownD x = false) : numsD (.tuple us) = false := no_of fun ht => by
  have := (nums_len ht).2.2 x hx
  rw [h] at this
  cases this
def spEntOdd : Sp := fun vs H Q _ => ∃ (d : Addr) (v : V) (e : PyData) (n : Nat), vs = [.ref d, v] ∧ SrcD H d ∧ Da H v e ∧ entryD n e = true ∧ (∀ z l v u os, e = .tuple [z, l, v, u, .tuple os] → os.length ≤ 10) ∧ ∀ (v' : V) (d' : PyData) (H' : Hp), Da H' v' d' → entryD n d' = false → Dd d H H' → Q v' H'
theorem ok__law_entry_odd {f : Addr} {fd : FuncData} (F : FnP K "_law_entry_odd" s__law_entry_odd f fd) (m_len : mg "len" = none) (m_list : mg "list" = none) (h__law_draw : Has P w K mg base 2 "_law_draw" ["_law_draw_here", "_law_many"] spDrawD) (h__law_one : Has P w K mg base 3 "_law_one" ["_law_draw_here", "_law_some"] spOneD) (h__law_put : Has P w K mg base 1 "_law_put" ["_law_row_here", "_law_k", "_law_one_here"] spPut) (h__law_odd_name : Has P w K mg base 4 "_law_odd_name" ["_law_draw_here"] spOddN) : FnOk P w K mg base CX0 5 f fd ["_law_draw_here", "_law_one_here"] spEntOdd := by
  refine F.ok sc__law_entry_odd (fun vs H Q E h => ?_) (fun cdv A outer s0 H vs Q E hr h => ?_)
  · obtain ⟨d, v, e, n, rfl, _⟩ := h; rfl
  obtain ⟨s, v, e, n, rfl, hs, hv, he, few, q⟩ := h
  obtain ⟨z, l, ve, us, os, rfl, b1, b2, b3, b4, b5, b6⟩ := entry_shape he
  have o10 := few _ _ _ _ os rfl
  obtain ⟨u1, u3, uo⟩ := nums_len b4
  have O := oth_split b6
  refine ⟨_, PSs.nox (pss_cons (ps_set (i := 2) sc__law_entry_odd.nd rfl (.inl rfl) (pe_callH h__law_draw (hr.mono (by decide)) (by rfl) (pa_cons (pv 0) (pa_cons pe_int pa_nil))))
  (pss_cons (ps_if (pt_cmpR op_eq (pv 2) pe_int (nomark _))
    (pss_one (ps_ret (pe_callH h__law_put (hr.mono (by decide)) (by rfl) (pa_cons (pv 1) (pa_cons pe_int (pa_cons (pe_callH h__law_odd_name (hr.mono (by decide)) (by rfl) (pa_cons (pv 0) pa_nil)) pa_nil))))))
    pss_nil)
  (pss_cons (ps_if (pt_cmpR op_lt (pv 2) pe_int (nomark _))
    (pss_one (ps_ret (pe_callH h__law_put (hr.mono (by decide)) (by rfl) (pa_cons (pv 1) (pa_cons (pv 2) (pa_cons (pe_callH h__law_one (hr.mono (by decide)) (by rfl) (pa_cons (pv 0) (pa_cons (pe_lst (pa_cons pe_int (pa_cons (pe_un un_neg pe_int) (pa_cons pe_non (pa_cons pe_bl (pa_cons pe_str pa_nil)))))) pa_nil))) pa_nil))))))
    pss_nil)
  (pss_cons (ps_if (pt_cmpR op_eq (pv 2) pe_int (nomark _))
    (pss_cons (ps_set (i := 3) sc__law_entry_odd.nd rfl (.inl rfl) (pe_lst (pa_cons (pe_op (op_catE K) (pe_ix (ix_tupE K) (pv 1) pe_int (fun _ _ => rfl)) (pe_tup (pa_cons pe_int pa_nil))) (pa_cons (pe_slice (sl_tupE K) (pe_ix (ix_tupE K) (pv 1) pe_int (fun _ _ => rfl)) po_none (po_some (pe_un un_neg pe_int))) (pa_cons (pe_callTy (call_listE K) (by rfl) m_list (by decide +kernel) (pa_cons (pe_ix (ix_tupE K) (pv 1) pe_int (fun _ _ => rfl)) pa_nil)) (pa_cons (pe_op (op_repU K) (pe_tup (pa_cons (pe_op op_add (pe_op op_pow pe_int pe_int) pe_int) pa_nil)) (pe_callB (call_lenE K) (by rfl) m_len (by decide +kernel) (pa_cons (pe_ix (ix_tupE K) (pv 1) pe_int (fun _ _ => rfl)) pa_nil))) pa_nil))))))
  (pss_one (ps_ret (pe_callH h__law_put (hr.mono (by decide)) (by rfl) (pa_cons (pv 1) (pa_cons pe_int (pa_cons (pe_callH h__law_one (hr.mono (by decide)) (by rfl) (pa_cons (pv 0) (pa_cons (pv 3) pa_nil))) pa_nil)))))))
    pss_nil)
  (pss_cons (ps_set (i := 4) sc__law_entry_odd.nd rfl (.inl rfl) (pe_ix (ix_tupE K) (pv 1) pe_int (fun _ _ => rfl)))
  (pss_cons (ps_set (i := 3) sc__law_entry_odd.nd rfl (.inl rfl) (pe_lst (pa_cons (pe_callTy (call_listE K) (by rfl) m_list (by decide +kernel) (pa_cons (pv 4) pa_nil)) (pa_cons (pe_op (op_catE K) (pv 4) (pe_tup (pa_cons pe_str (pa_cons pe_str pa_nil)))) (pa_cons (pe_op (op_catE K) (pv 4) (pe_tup (pa_cons (pe_ix (ix_tupE K) (pv 1) pe_int (fun _ _ => rfl)) pa_nil))) (pa_cons (pe_op (op_catE K) (pv 4) (pe_tup (pa_cons pe_str pa_nil))) (pa_cons pe_non pa_nil)))))))
  (pss_one (ps_ret (pe_callH h__law_put (hr.mono (by decide)) (by rfl) (pa_cons (pv 1) (pa_cons pe_int (pa_cons (pe_callH h__law_one (hr.mono (by decide)) (by rfl) (pa_cons (pv 0) (pa_cons (pv 3) pa_nil))) pa_nil)))))))))))), ?_⟩
  walk_at "zz"
  refine ⟨s, _, rfl, by decide, hs, fun r1 H1 r10 r11 d1 => ?_⟩
  obtain ⟨k, rfl⟩ : ∃ j : Nat, r1 = (j : Int) := ⟨r1.toNat, by omega⟩
  have v1 := hv.mv (KD.of_dd d1)
  walk_at "zz"
  refine z_ite (fun h0 => ?_) (fun h0 => ?_)
  · walk_at "zz"
    refine ⟨s, rfl, d1.src, fun v2 e2 H2 a2 no2 _ d2 => ?_⟩
    have D2 := d1.trans d2
    walk_at "zz"
    refine ⟨_, _, _, 0, _, rfl, hv.mv (KD.of_dd D2), a2, by simp, fun p3 H3 e3 a3 => ?_⟩
    refine q _ _ H3 a3 ?_ (D2.trans (Dd.of_same D2.src e3))
    show (nameD e2 && _) = false
    rw [no2]
    rfl
  · walk_at "zz"
    refine z_ite (fun h3 => ?_) (fun h3 => ?_)
    · walk_at "zz"
      refine d_menu (R := fun d => countD 1 d = false) (.cons (.int 0) rfl (.cons (.int (-1)) rfl (.cons .non rfl (.cons (.bl true) rfl (.cons (.str "1" (by decide +kernel) (by decide +kernel)) rfl .nil))))) (by simp) (fun pa Ha ea hha aa => ?_)
      walk_at "zz"
      refine d_one (d1.src.same ea) hha aa (by simp) (by simp) (fun vb db Hb ab rb ddb => ?_)
      have Db := d1.trans ((Dd.of_same d1.src ea).trans ddb)
      walk_at "zz"
      refine ⟨_, _, _, k, _, rfl, hv.mv (KD.of_dd Db), ab, by simp, fun pc Hc ec ac => ?_⟩
      refine q _ _ Hc ac ?_ (Db.trans (Dd.of_same Db.src ec))
      rcases (show k = 1 ∨ k = 2 by omega) with rfl | rfl
      · show (nameD (.str z) && (countD 1 db && _)) = false
        rw [rb]
        simp
      · show (nameD (.str z) && (countD 1 (.int l) && (countD 1 db && _))) = false
        rw [rb]
        simp
    · walk_at "zz"
      refine z_ite (fun h4 => ?_) (fun h4 => ?_)
      · walk_at "zz"
        refine d_ix (i := 3) v1 rfl (fun w2 a2 => ?_)
        walk_at "zz"
        refine d_tup (.cons (.int 1) .nil) (by simp) (fun p3 H3 e3 a3 => ?_)
        refine d_cat (a2.mv (KD.of_same e3)) a3 (by simp only [List.length_cons, List.length_nil]; omega) (fun p4 H4 e4 a4 => ?_)
        walk_at "zz"
        refine d_ix (i := 3) (v1.mv (KD.of_same (e3.trans e4))) rfl (fun w5 a5 => ?_)
        walk_at "zz"
        refine d_sl a5 (fun p6 H6 e6 a6 => ?_)
        rw [cutL_last] at a6
        walk_at "zz"
        refine d_ix (i := 3) (v1.mv (KD.of_same (e3.trans (e4.trans e6)))) rfl (fun w7 a7 => ?_)
        walk_at "zz"
        refine d_list a7 (fun p8 H8 e8 a8 => ?_)
        walk_at "zz"
        refine d_tup (.cons (.int _) .nil) (by simp) (fun p9 H9 e9 a9 => ?_)
        walk_at "zz"
        refine d_ix (i := 3) (v1.mv (KD.of_same (e3.trans (e4.trans (e6.trans (e8.trans e9)))))) rfl (fun wa aa => ?_)
        walk_at "zz"
        refine d_len aa ?_
        refine d_rep a9 u1 (by omega) (fun pb Hb eb ab => ?_)
        walk_at "zz"
        have f8 := KD.of_same (e9.trans eb)
        have f6 := (KD.of_same e8).trans f8
        have f4 := (KD.of_same e6).trans f6
        refine d_menu (R := fun d => numsD d = false ∨ lenD d ≠ n) (.cons (a4.mv f4) (.inr (by show (us ++ _).length ≠ n; rw [List.length_append]; simp; omega)) (.cons (a6.mv f6) (.inr (by show us.dropLast.length ≠ n; rw [List.length_dropLast]; omega)) (.cons (a8.mv f8) (.inl rfl) (.cons ab (.inl (nums_no (List.mem_replicate.mpr ⟨by omega, rfl⟩) (by decide +kernel))) .nil)))) (by simp) (fun pc Hc ec hc ac => ?_)
        walk_at "zz"
        have fall := e3.trans (e4.trans (e6.trans (e8.trans (e9.trans (eb.trans ec)))))
        refine d_one (d1.src.same fall) hc ac (by simp) (by simp) (fun vd dd Hd ad rd ddd => ?_)
        have Dd' := d1.trans ((Dd.of_same d1.src fall).trans ddd)
        walk_at "zz"
        refine ⟨_, _, _, 3, _, rfl, hv.mv (KD.of_dd Dd'), ad, by simp, fun pe He ee ae => ?_⟩
        refine q _ _ He ae ?_ (Dd'.trans (Dd.of_same Dd'.src ee))
        show (nameD (.str z) && (countD 1 (.int l) && (countD 1 (.int ve) && (numsD dd && (decide (lenD dd = n) && _))))) = false
        rcases rd with h | h
        · rw [h]; simp
        · rw [decide_eq_false h]; simp
      · have k4 : k = 4 := by omega
        walk_at "zz"
        refine d_ix (i := 4) v1 rfl (fun w2 a2 => ?_)
        walk_at "zz"
        refine d_list a2 (fun p3 H3 e3 a3 => ?_)
        walk_at "zz"
        refine d_tup (.cons (.str "a" (by decide +kernel) (by decide +kernel)) (.cons (.str "a" (by decide +kernel) (by decide +kernel)) .nil)) (by simp) (fun p4 H4 e4 a4 => ?_)
        refine d_cat (a2.mv (KD.of_same (e3.trans e4))) a4 (by simp only [List.length_cons, List.length_nil]; omega) (fun p5 H5 e5 a5 => ?_)
        have k5 := KD.of_same (e3.trans (e4.trans e5))
        walk_at "zz"
        refine d_ix (i := 0) (v1.mv k5) rfl (fun w6 a6 => ?_)
        walk_at "zz"
        refine d_tup (.cons a6 .nil) (by simp) (fun p7 H7 e7 a7 => ?_)
        refine d_cat (a2.mv (k5.trans (KD.of_same e7))) a7 (by simp only [List.length_cons, List.length_nil]; omega) (fun p8 H8 e8 a8 => ?_)
        walk_at "zz"
        refine d_tup (.cons (.str "B" (by decide +kernel) (by decide +kernel)) .nil) (by simp) (fun p9 H9 e9 a9 => ?_)
        refine d_cat (a2.mv (k5.trans (KD.of_same (e7.trans (e8.trans e9))))) a9 (by simp only [List.length_cons, List.length_nil]; omega) (fun pa Ha ea aa => ?_)
        walk_at "zz"
        have f8 := KD.of_same (e9.trans ea)
        have f5 := (KD.of_same (e7.trans e8)).trans f8
        have f3 := (KD.of_same (e4.trans e5)).trans f5
        have x1 : othersD z (.tuple (os ++ [.str "a", .str "a"])) = false := oth_no fun h => by
          have pw := rise_pw h.up
          rw [List.map_append] at pw
          exact txt_irr _ ((List.pairwise_cons.mp (List.pairwise_append.mp pw).2.1).1 _ (List.mem_singleton.mpr rfl))
        have x2 : othersD z (.tuple (os ++ [.str z])) = false := oth_no fun h => h.no (by rw [List.map_append]; exact List.mem_append_right _ (List.mem_singleton.mpr rfl))
        have x3 : othersD z (.tuple (os ++ [.str "B"])) = false := oth_no fun h => by
          have := h.nm (.str "B") (by simp)
          revert this
          decide +kernel
        refine d_menu (R := fun d => othersD z d = false) (.cons (a3.mv f3) rfl (.cons (a5.mv f5) x1 (.cons (a8.mv f8) x2 (.cons aa x3 (.cons .non rfl .nil))))) (by simp) (fun pc Hc ec hc ac => ?_)
        walk_at "zz"
        have fall := e3.trans (e4.trans (e5.trans (e7.trans (e8.trans (e9.trans (ea.trans ec))))))
        refine d_one (d1.src.same fall) hc ac (by simp) (by simp) (fun vd dd Hd ad rd ddd => ?_)
        have Dd' := d1.trans ((Dd.of_same d1.src fall).trans ddd)
        walk_at "zz"
        refine ⟨_, _, _, 4, _, rfl, hv.mv (KD.of_dd Dd'), ad, by simp, fun pe He ee ae => ?_⟩
        refine q _ _ He ae ?_ (Dd'.trans (Dd.of_same Dd'.src ee))
        show (nameD (.str z) && (countD 1 (.int l) && (countD 1 (.int ve) && (numsD (.tuple us) && (decide (lenD (.tuple us) = n) && othersD z dd))))) = false
        rw [rd]
        simp
/-! ### good books, and what is none of them -/
/-- all tuples are kept: enough for data without lists -/
def KT (H H' : Hp) : Prop := ∀ b xs, H b = some (.tup xs) → H' b = some (.tup xs)
mutual
def noL : PyData → Bool
  | .list _ => false
  | .tuple ds => noLs ds
  | _ => true
def noLs : List PyData → Bool
  | [] => true
  | d :: ds => noL d && noLs ds
end
mutual
theorem Da.mvT {H H' : Hp} (k : KT H H') : ∀ {v : V} {d : PyData}, Da H v d → noL d = true → Da H' v d
  | _, _, .non, _ => .non
  | _, _, .bl b, _ => .bl b
  | _, _, .int i, _ => .int i
  | _, _, .str x h g, _ => .str x h g
  | _, _, .lst h g, n => by unfold noL at n; cases n
  | _, _, .tup h g, n => by unfold noL at n; exact .tup (k _ _ h) (DaAll.mvT k g n)
theorem DaAll.mvT {H H' : Hp} (k : KT H H') : ∀ {vs : List V} {ds : List PyData}, DaAll H vs ds → noLs ds = true → DaAll H' vs ds
  | _, _, .nil, _ => .nil
  | _, _, .cons h g, n => by
    unfold noLs at n
    rw [Bool.and_eq_true] at n
    exact .cons (Da.mvT k h n.1) (DaAll.mvT k g n.2)
end
theorem noLs_iff {ds : List PyData} : noLs ds = true ↔ ∀ d ∈ ds, noL d = true := by
  induction ds with
  | nil => exact ⟨fun _ d h => by simp at h, fun _ => rfl⟩
  | cons d ds ih =>
    unfold noLs
    rw [Bool.and_eq_true, ih]
    constructor
    · rintro ⟨h1, h2⟩ x hx
      rcases List.mem_cons.mp hx with rfl | hx
      · exact h1
      · exact h2 x hx
    · exact fun h => ⟨h d (by simp), fun x hx => h x (by simp [hx])⟩
theorem KT.of_same {H H' : Hp} (e : Same H H') : KT H H' := fun _ _ h => e _ _ h
theorem KT.trans {H H1 H2 : Hp} (a : KT H H1) (b : KT H1 H2) : KT H H2 := fun x xs h => b x xs (a x xs h)
theorem KT.of_dd {s : Addr} {H H' : Hp} (d : Dd s H H') : KT H H' := fun _ _ h => d.tup h
theorem KT.updL {H : Hp} {D : Addr} {xs ys : List V} (h : H D = some (.lst xs)) : KT H (upd H D (.lst ys)) := fun b zs hb => by
  rw [upd_ne (ne_of hb h (by intro z; cases z))]
  exact hb
theorem KT.new {H : Hp} {D : Addr} {o : HO} (h : H D = none) : KT H (upd H D o) := KT.of_same (same_upd h)
structure Good (z : Str) (l v : Int) (us es as rs : List PyData) : Prop where
  b : BooksP (.str z) (.int l) (.int v) (.tuple us) (.tuple es) (.tuple as) (.tuple rs)
  e10 : es.length ≤ 10
  a10 : as.length ≤ 10
  r10 : rs.length ≤ 10
  o10 : ∀ z l v u os, PyData.tuple [z, l, v, u, .tuple os] ∈ rs → os.length ≤ 10
abbrev bkL (z : Str) (l v : Int) (us es as rs : List PyData) : List PyData := [.str z, .int l, .int v, .tuple us, .tuple es, .tuple as, .tuple rs]
theorem era_shape {d : PyData} (h : eraD d = true) : ∃ z c, d = .tuple [.str z, .int c] ∧ nmB z = true ∧ 0 ≤ c := by
  unfold eraD at h
  split at h
  · rename_i z c
    rw [Bool.and_eq_true] at h
    have e1 := name_str h.1
    obtain ⟨i, rfl⟩ := count_int h.2
    rw [e1] at h
    exact ⟨strD z, i, by rw [← e1], h.1, of_decide_eq_true h.2⟩
  · cases h
theorem map_names (ds : List PyData) : (ds.map firstD).map strD = ds.map fun x => strD (firstD x) := by rw [List.map_map]; rfl
section
variable {z : Str} {l v : Int} {us es as rs : List PyData}
theorem Good.un (G : Good z l v us es as rs) : 1 ≤ us.length ∧ us.length ≤ 3 ∧ ∀ x ∈ us, ownD x = true := nums_len G.b.nu
theorem Good.era (G : Good z l v us es as rs) : ∀ x ∈ es, eraD x = true := by
  have := G.b.er
  unfold allT at this
  rw [Bool.and_eq_true] at this
  exact List.all_eq_true.mp this.2
theorem Good.acc (G : Good z l v us es as rs) : ∀ x ∈ as, accD (us.length + 1) x = true := by
  have := G.b.ac
  unfold accsD allT at this
  rw [Bool.and_eq_true] at this
  exact List.all_eq_true.mp this.2
theorem Good.ent (G : Good z l v us es as rs) : ∀ x ∈ rs, entryD us.length x = true := by
  have := G.b.ro
  unfold rollD at this
  rw [Bool.and_eq_true, Bool.and_eq_true] at this
  exact List.all_eq_true.mp this.2.1
theorem Good.eR (G : Good z l v us es as rs) : RowsD 2 es := by
  refine ⟨fun x hx => ?_, ?_, G.e10⟩
  · obtain ⟨y, c, rfl, _⟩ := era_shape (G.era x hx)
    exact ⟨y, _, rfl, rfl⟩
  · rw [← map_names]
    exact (oth_split G.b.oe).up
theorem Good.aR (G : Good z l v us es as rs) : RowsD 6 as := by
  refine ⟨fun x hx => ?_, ?_, G.a10⟩
  · obtain ⟨y, s, g, r, t, q, rfl, h1, _⟩ := acc_shape (G.acc x hx)
    rw [name_str h1]
    exact ⟨_, _, rfl, rfl⟩
  · rw [← map_names]
    exact (oth_split G.b.oa).up
theorem Good.rR (G : Good z l v us es as rs) : RowsD 5 rs := by
  refine ⟨fun x hx => ?_, ?_, G.r10⟩
  · obtain ⟨y, l, v, us, os, rfl, _⟩ := entry_shape (G.ent x hx)
    exact ⟨y, _, rfl, rfl⟩
  · have := G.b.ro
    unfold rollD at this
    rw [Bool.and_eq_true, Bool.and_eq_true] at this
    exact this.2.2
theorem Good.sz (G : Good z l v us es as rs) : ∀ x ∈ bkL z l v us es as rs, (itD x).length ≤ 1000 := by
  have h1 := G.un
  have h2 := G.e10
  have h3 := G.a10
  have h4 := G.r10
  intro x hx
  simp only [List.mem_cons, List.not_mem_nil, or_false] at hx
  rcases hx with rfl | rfl | rfl | rfl | rfl | rfl | rfl <;> simp only [itD, List.length_nil] <;> omega
theorem sz_put {ds : List PyData} {k : Nat} {e : PyData} (h : ∀ x ∈ ds, (itD x).length ≤ 1000) (he : (itD e).length ≤ 1000) : szD (.tuple (putD ds k e)) := by
  intro x hx
  have hx : x ∈ putD ds k e := hx
  unfold putD at hx
  rcases List.mem_append.mp hx with hx | hx
  · rcases List.mem_append.mp hx with hx | hx
    · exact h x (List.mem_of_mem_take hx)
    · rw [List.mem_singleton.mp hx]; exact he
  · exact h x (List.mem_of_mem_drop hx)
theorem eqvAll_cons (x y : PyData) (xs ys : List PyData) : PyData.eqvAll (x :: xs) (y :: ys) = (PyData.eqv x y && PyData.eqvAll xs ys) := by rw [PyData.eqvAll]
theorem eqv_tup (xs ys : List PyData) : PyData.eqv (.tuple xs) (.tuple ys) = PyData.eqvAll xs ys := by rw [PyData.eqv]
theorem eqv_int (a b : Int) : PyData.eqv (.int a) (.int b) = (a == b) := by rw [PyData.eqv]
theorem eqv_str (a b : Str) : PyData.eqv (.str a) (.str b) = (a == b) := by rw [PyData.eqv]
/-- an entry of this roll that is eqv to one that begins so -/
theorem eqv_own {n : Nat} {x : PyData} (hx : entryD n x = true) {z : Str} {a b : Int} {u t : PyData} (h : PyData.eqv x (.tuple [.str z, .int a, .int b, u, t]) = true) : ∃ u' t', x = .tuple [.str z, .int a, .int b, .tuple u', .tuple t'] := by
  obtain ⟨y, l, v, us, os, rfl, _⟩ := entry_shape hx
  rw [eqv_tup, eqvAll_cons, eqvAll_cons, eqvAll_cons, eqv_str, eqv_int, eqv_int] at h
  simp only [Bool.and_eq_true, beq_iff_eq] at h
  obtain ⟨h1, h2, h3, _⟩ := h
  subst h1 h2 h3
  exact ⟨us, os, rfl⟩
theorem one_name {ds : List PyData} {f : PyData → Str} (h : riseB (ds.map f) = true) {x y : PyData} (hx : x ∈ ds) (hy : y ∈ ds) (e : f x = f y) : x = y := by
  obtain ⟨i, hi, ei⟩ := List.getElem_of_mem hx
  obtain ⟨j, hj, ej⟩ := List.getElem_of_mem hy
  have pw := List.pairwise_map.mp (rise_pw h)
  rcases Nat.lt_trichotomy i j with c | c | c
  · have := List.pairwise_iff_getElem.mp pw i j hi hj c
    rw [ei, ej, e] at this
    exact absurd this (txt_irr _)
  · subst c
    exact ei.symm.trans ej
  · have := List.pairwise_iff_getElem.mp pw j i hj hi c
    rw [ei, ej, e] at this
    exact absurd this (txt_irr _)
/-- the own entry -/
theorem Good.own (G : Good z l v us es as rs) : ∃ u' t', PyData.tuple [.str z, .int l, .int v, .tuple u', .tuple t'] ∈ rs := by
  obtain ⟨x, hx, h⟩ := List.any_eq_true.mp G.b.ir
  obtain ⟨u', t', rfl⟩ := eqv_own (G.ent x hx) h
  exact ⟨u', t', hx⟩
theorem Good.lv (G : Good z l v us es as rs) : 1 ≤ l ∧ 1 ≤ v := by
  obtain ⟨u', t', h⟩ := G.own
  obtain ⟨_, _, _, _, _, e, _, h1, h2, _⟩ := entry_shape (G.ent _ h)
  cases e
  exact ⟨h1, h2⟩
theorem Good.own_lv (G : Good z l v us es as rs) {a b : Int} {u t : PyData} (h : rs.any (fun x => PyData.eqv x (.tuple [.str z, .int a, .int b, u, t])) = true) : a = l ∧ b = v := by
  obtain ⟨x, hx, h⟩ := List.any_eq_true.mp h
  obtain ⟨u1, t1, rfl⟩ := eqv_own (G.ent x hx) h
  obtain ⟨u', t', hy⟩ := G.own
  have := one_name G.rR.up hx hy rfl
  cases this
  exact ⟨rfl, rfl⟩
/-! #### one of the seven is another -/
theorem Good.no0 (G : Good z l v us es as rs) {e : PyData} (h : nameD e = false) : booksD (.tuple (putD (bkL z l v us es as rs) 0 e)) = false := books_no fun B => by
  have := B.nm
  rw [h] at this
  cases this
theorem Good.no1 (G : Good z l v us es as rs) {e : PyData} (h : countD 1 e = false ∨ ∃ a, e = .int a ∧ a ≠ l) : booksD (.tuple (putD (bkL z l v us es as rs) 1 e)) = false := books_no fun B => by
  rcases h with h | ⟨a, rfl, ne⟩
  · obtain ⟨_, _, _, _, _, q, _, h1, _⟩ := entry_shape B.en
    cases q
    have : countD 1 (.int _) = true := decide_eq_true h1
    rw [h] at this
    cases this
  · exact ne (G.own_lv B.ir).1
theorem Good.no2 (G : Good z l v us es as rs) {e : PyData} (h : countD 1 e = false ∨ ∃ a, e = .int a ∧ a ≠ v) : booksD (.tuple (putD (bkL z l v us es as rs) 2 e)) = false := books_no fun B => by
  rcases h with h | ⟨a, rfl, ne⟩
  · obtain ⟨_, _, _, _, _, q, _, _, h1, _⟩ := entry_shape B.en
    cases q
    have : countD 1 (.int _) = true := decide_eq_true h1
    rw [h] at this
    cases this
  · exact ne (G.own_lv B.ir).2
theorem Good.no3 (G : Good z l v us es as rs) {e : PyData} (h : numsD e = false ∨ lenD e ≠ us.length) : booksD (.tuple (putD (bkL z l v us es as rs) 3 e)) = false := books_no fun B => by
  rcases h with h | h
  · have := B.nu
    rw [h] at this
    cases this
  · obtain ⟨u', t', hy⟩ := G.own
    have := B.ro
    unfold rollD at this
    rw [Bool.and_eq_true, Bool.and_eq_true] at this
    obtain ⟨_, _, _, _, _, q, _, _, _, _, h1, _⟩ := entry_shape (List.all_eq_true.mp this.2.1 _ hy)
    obtain ⟨_, _, _, _, _, q2, _, _, _, _, h2, _⟩ := entry_shape (G.ent _ hy)
    cases q
    cases q2
    omega
theorem Good.no4 (G : Good z l v us es as rs) {e : PyData} (h : allT eraD e = false ∨ (∃ x ∈ itD e, strD (firstD x) = z) ∨ riseB ((itD e).map fun x => strD (firstD x)) = false ∨ ∃ x ∈ as, ∀ y ∈ itD e, strD (firstD x) ≠ strD (firstD y)) : booksD (.tuple (putD (bkL z l v us es as rs) 4 e)) = false := books_no fun B => by
  rcases h with h | ⟨x, hx, h⟩ | h | ⟨x, hx, h⟩
  · have := B.er
    rw [h] at this
    cases this
  · refine (oth_split B.oe).no ?_
    rw [show strD (.str z) = z from rfl, ← h, show knownD e = (itD e).map firstD from rfl, map_names]
    exact List.mem_map.mpr ⟨x, hx, rfl⟩
  · have := (oth_split B.oe).up
    rw [show knownD e = (itD e).map firstD from rfl, map_names, h] at this
    cases this
  · have := List.all_eq_true.mp B.kn (firstD x) (List.mem_map.mpr ⟨x, hx, rfl⟩)
    have := of_decide_eq_true this
    rw [show knownD e = (itD e).map firstD from rfl, map_names] at this
    obtain ⟨y, hy, e⟩ := List.mem_map.mp this
    exact h y hy e.symm
theorem Good.no5 (G : Good z l v us es as rs) {e : PyData} (h : accsD (us.length + 1) e = false ∨ riseB ((itD e).map fun x => strD (firstD x)) = false) : booksD (.tuple (putD (bkL z l v us es as rs) 5 e)) = false := books_no fun B => by
  rcases h with h | h
  · have := B.ac
    rw [show lenD (.tuple us) = us.length from rfl, h] at this
    cases this
  · have := (oth_split B.oa).up
    rw [show knownD e = (itD e).map firstD from rfl, map_names, h] at this
    cases this
theorem Good.no6 (G : Good z l v us es as rs) {e : PyData} (h : rollD us.length e = false ∨ ∀ x ∈ itD e, ∀ t, PyData.eqv x (.tuple [.str z, .int l, .int v, .tuple us, t]) = false) : booksD (.tuple (putD (bkL z l v us es as rs) 6 e)) = false := books_no fun B => by
  rcases h with h | h
  · have := B.ro
    rw [show lenD (.tuple us) = us.length from rfl, h] at this
    cases this
  · obtain ⟨x, hx, hq⟩ := List.any_eq_true.mp B.ir
    rw [h x hx] at hq
    cases hq
/-! #### turned about -/
theorem all_no {f : PyData → Bool} {ds : List PyData} {x : PyData} (hx : x ∈ ds) (h : f x = false) : allT f (.tuple ds) = false := no_of fun ht => by
  unfold allT at ht
  rw [Bool.and_eq_true] at ht
  have := List.all_eq_true.mp ht.2 x hx
  rw [h] at this
  cases this
theorem era_tup {x : PyData} (h : tupD 2 x = false) : eraD x = false := no_of fun ht => by
  obtain ⟨_, _, rfl, _⟩ := era_shape ht
  cases h
theorem acc_tup {n : Nat} {x : PyData} (h : tupD 6 x = false) : accD n x = false := no_of fun ht => by
  obtain ⟨_, _, _, _, _, _, rfl, _⟩ := acc_shape ht
  cases h
theorem ent_tup {n : Nat} {x : PyData} (h : tupD 5 x = false) : entryD n x = false := no_of fun ht => by
  obtain ⟨_, _, _, _, _, rfl, _⟩ := entry_shape ht
  cases h
theorem roll_no {n : Nat} {ds : List PyData} {x : PyData} (hx : x ∈ ds) (h : entryD n x = false) : rollD n (.tuple ds) = false := no_of fun ht => by
  unfold rollD at ht
  rw [Bool.and_eq_true, Bool.and_eq_true] at ht
  have := List.all_eq_true.mp ht.2.1 x hx
  rw [h] at this
  cases this
theorem roll_no2 {n : Nat} {ds : List PyData} (h : riseB (ds.map fun x => strD (firstD x)) = false) : rollD n (.tuple ds) = false := no_of fun ht => by
  unfold rollD at ht
  rw [Bool.and_eq_true, Bool.and_eq_true] at ht
  have : riseB (ds.map fun x => strD (firstD x)) = true := ht.2.2
  rw [h] at this
  cases this
theorem Turned.len {m : Nat} {ds : List PyData} {d : PyData} (h : Turned m ds d) : (itD d).length ≤ 1000 := by
  rcases h with rfl | ⟨ds', rfl, h, _⟩
  · exact Nat.zero_le _
  · show ds'.length ≤ _
    omega
theorem Good.t4 (G : Good z l v us es as rs) {e : PyData} (h : Turned 2 es e) : booksD (.tuple (putD (bkL z l v us es as rs) 4 e)) = false := by
  rcases h with rfl | ⟨ds', rfl, _, h | ⟨x, hx, h⟩⟩
  · exact G.no4 (.inl rfl)
  · exact G.no4 (.inr (.inr (.inl h)))
  · exact G.no4 (.inl (all_no hx (era_tup h)))
theorem Good.t5 (G : Good z l v us es as rs) {e : PyData} (h : Turned 6 as e) : booksD (.tuple (putD (bkL z l v us es as rs) 5 e)) = false := by
  rcases h with rfl | ⟨ds', rfl, _, h | ⟨x, hx, h⟩⟩
  · exact G.no5 (.inl rfl)
  · exact G.no5 (.inr h)
  · exact G.no5 (.inl (all_no hx (acc_tup h)))
theorem Good.t6 (G : Good z l v us es as rs) {e : PyData} (h : Turned 5 rs e) : booksD (.tuple (putD (bkL z l v us es as rs) 6 e)) = false := by
  rcases h with rfl | ⟨ds', rfl, _, h | ⟨x, hx, h⟩⟩
  · exact G.no6 (.inl rfl)
  · exact G.no6 (.inl (roll_no2 h))
  · exact G.no6 (.inl (roll_no hx (ent_tup h)))
end
/-! #### depth -/
theorem dep_all {n : Nat} : ∀ {ds : List PyData}, (∀ d ∈ ds, d.depth ≤ n) → PyData.depthAll ds ≤ n
  | [], _ => Nat.zero_le _
  | d :: ds, h => by
    have h1 := h d (by simp)
    have h2 := dep_all (ds := ds) fun e he => h e (List.mem_cons_of_mem _ he)
    show max (PyData.depth d) (PyData.depthAll ds) ≤ n
    omega
theorem dep_tup {n : Nat} {ds : List PyData} (h : ∀ d ∈ ds, d.depth ≤ n) : (PyData.tuple ds).depth ≤ n + 1 := Nat.succ_le_succ (dep_all h)
theorem dep_era {x : PyData} (h : eraD x = true) : x.depth ≤ 1 := by
  obtain ⟨_, _, rfl, _⟩ := era_shape h
  exact Nat.le_refl _
theorem dep_nums {us : List PyData} (h : numsD (.tuple us) = true) : (PyData.tuple us).depth ≤ 1 := dep_tup fun x hx => by
  have := (nums_len h).2.2 x hx
  cases x <;> first | exact Nat.le_refl _ | cases this
theorem dep_names {own : Str} {os : List PyData} (h : othersD own (.tuple os) = true) : (PyData.tuple os).depth ≤ 1 := dep_tup fun x hx => by
  rw [name_str ((oth_split h).nm x hx)]
  exact Nat.le_refl _
theorem dep_ent {n : Nat} {x : PyData} (h : entryD n x = true) : x.depth ≤ 2 := by
  obtain ⟨z, l, v, us, os, rfl, _, _, _, h4, _, h6⟩ := entry_shape h
  refine dep_tup fun d hd => ?_
  simp only [List.mem_cons, List.not_mem_nil, or_false] at hd
  rcases hd with rfl | rfl | rfl | rfl | rfl
  · exact Nat.zero_le _
  · exact Nat.zero_le _
  · exact Nat.zero_le _
  · exact dep_nums h4
  · exact dep_names h6
theorem dep_row {n : Nat} {d : PyData} (h : rowD n d = true) : d.depth ≤ 2 := by
  obtain ⟨ps, rfl, _, h⟩ := row_shape h
  refine dep_tup fun x hx => ?_
  obtain ⟨a, b, rfl, _⟩ := h x hx
  exact Nat.le_refl _
theorem dep_count {c : Int} {d : PyData} (h : countD c d = true) : d.depth = 0 := by
  obtain ⟨i, rfl⟩ := count_int h
  rfl
theorem dep_seen {d : PyData} (h : seenD d = true) : d.depth ≤ 1 := by
  cases d with
  | tuple ds =>
    have h1 : stampD (.tuple ds) = true := h
    clear h
    unfold stampD at h1
    split at h1
    · rename_i a b e
      cases e
      rw [Bool.and_eq_true] at h1
      refine dep_tup fun x hx => ?_
      simp only [List.mem_cons, List.not_mem_nil, or_false] at hx
      rcases hx with rfl | rfl
      · exact Nat.le_of_eq (dep_count h1.1)
      · exact Nat.le_of_eq (dep_count h1.2)
    · cases h1
  | none => exact Nat.zero_le _
  | _ => cases h
theorem dep_acc {n : Nat} {x : PyData} (h : accD n x = true) : x.depth ≤ 3 := by
  obtain ⟨z, s, g, r, t, q, rfl, h1, h2, h3, h4, h5, h6⟩ := acc_shape h
  refine dep_tup fun d hd => ?_
  simp only [List.mem_cons, List.not_mem_nil, or_false] at hd
  rcases hd with rfl | rfl | rfl | rfl | rfl | rfl
  · rw [name_str h1]; exact Nat.zero_le _
  · exact Nat.le_trans (dep_seen h2) (by decide)
  · rw [dep_count h3]; exact Nat.zero_le _
  · exact dep_row h4
  · rw [dep_count h5]; exact Nat.zero_le _
  · exact dep_row h6
theorem Good.dep {z : Str} {l v : Int} {us es as rs : List PyData} (G : Good z l v us es as rs) : (PyData.tuple (bkL z l v us es as rs)).depth ≤ 5 := by
  refine dep_tup fun d hd => ?_
  simp only [List.mem_cons, List.not_mem_nil, or_false] at hd
  rcases hd with rfl | rfl | rfl | rfl | rfl | rfl | rfl
  · exact Nat.zero_le _
  · exact Nat.zero_le _
  · exact Nat.zero_le _
  · exact Nat.le_trans (dep_nums G.b.nu) (by decide)
  · exact Nat.le_trans (dep_tup fun x hx => dep_era (G.era x hx)) (by decide)
  · exact dep_tup fun x hx => dep_acc (G.acc x hx)
  · exact Nat.le_trans (dep_tup fun x hx => dep_ent (G.ent x hx)) (by decide)
theorem Da.sh {H : Hp} {v : V} {d : PyData} (h : Da H v d) (n : d.depth ≤ 64) : SeqAt.shaped d = true := by
  unfold SeqAt.shaped
  rw [h.lay, decide_eq_true n]
  rfl
/-- a tuple of data against the empty one -/
theorem z_neNil {H : Hp} {Q : VK} {v w : V} {ds : List PyData} (a : Da H v (.tuple ds)) (b : Da H w (.tuple [])) (n : (PyData.tuple ds).depth ≤ 64) (q : Q (.bl (!decide (ds = []))) H) : rNeD K v w H Q := by
  refine z_neD (k := decide (ds = [])) a.dp b.dp (a.sh n) (b.sh (by decide)) ?_ q
  cases ds with
  | nil => rfl
  | cons d ds => rfl
/-- the fields of a hand, in the order in which they are put -/
def hf (nm own li ve er ac he : V) : List (Str × V) := [("name", nm), ("own", own), ("life", li), ("version", ve), ("eras", er), ("accounts", ac), ("heard", he)]
/-- what the class Hand says -/
structure HandC (K : PySem.W.Frag) (C : Addr) : Prop where
  cl : Cls K C
  n1 : NoAttr K C "name"
  n2 : NoAttr K C "own"
  n3 : NoAttr K C "life"
  n4 : NoAttr K C "version"
  n5 : NoAttr K C "eras"
  n6 : NoAttr K C "accounts"
  n7 : NoAttr K C "heard"
theorem hf_nm {a b c d e f g : V} : (hf a b c d e f g).lookup ("name" : Str) = some a := by rfl
theorem hf_own {a b c d e f g : V} : (hf a b c d e f g).lookup ("own" : Str) = some b := by rfl
theorem hf_li {a b c d e f g : V} : (hf a b c d e f g).lookup ("life" : Str) = some c := by rfl
theorem hf_ve {a b c d e f g : V} : (hf a b c d e f g).lookup ("version" : Str) = some d := by rfl
theorem hf_er {a b c d e f g : V} : (hf a b c d e f g).lookup ("eras" : Str) = some e := by rfl
theorem hf_he {a b c d e f g : V} : (hf a b c d e f g).lookup ("heard" : Str) = some g := by rfl
theorem hf_ac {a b c d e f g : V} : (hf a b c d e f g).lookup ("accounts" : Str) = some f := by rfl
/-- self.others(): the names of the accounts, rising -/
def spOthers (C : Addr) : Sp := fun vs H Q _ => ∃ (p dx ac : Addr) (fs : List (Str × V)) (kvs : List (Key × V)) (ks : List Str), vs = [.ref p] ∧ H p = some (.ins C dx fs) ∧ fs.lookup ("accounts" : Str) = some (.ref ac) ∧ H ac = some (.dK kvs) ∧ kvs.map (·.1) = ks.map Sum.inr ∧ ks.length < 64 ∧
  ∀ (l : Addr) (ys : List Str) (H' : Hp), H l = none → Same H H' → H' l = some (.lst (ys.map V.str)) → ys.Perm ks → sortedS ys = true → Q (.ref l) H'
theorem ok_Hand_others {f C : Addr} {fd : FuncData} (F : FunD K "others" "Hand.others" (defArgs s_Hand_others) (defBody s_Hand_others) (defScope s_Hand_others) [] [] f fd) (T : HandC K C) (m_sorted : mg "sorted" = none) : FnOk P w K mg base CX0 1 f fd ["self"] (spOthers C) := by
  refine okC F sc_Hand_others (fun vs H Q E h => ?_) (fun A outer s H vs Q E hr h => ?_)
  · obtain ⟨p, dx, ac, fs, kvs, ks, rfl, _⟩ := h; rfl
  obtain ⟨p, dx, ac, fs, kvs, ks, rfl, hp, l5, ha, ek, l64, q⟩ := h
  refine ⟨_, PSs.nox (pss_one (ps_ret (pe_callB (call_sortedD rfl) (by rfl) m_sorted (by decide +kernel) (pa_cons (pe_fld (pv 0) rfl) pa_nil)))), ?_⟩
  walk_at "zz"
  refine z_fld ?_
  walk_at "zz"
  refine ⟨p, C, dx, _, _, rfl, hp, T.cl, T.n6, l5, ?_⟩
  walk_at "zz"
  exact ⟨ac, kvs, ks, rfl, .inl ha, ek, l64, fun ys l pm so nl => q l ys _ nl (same_upd nl) upd_same pm so⟩
/-- self.own_entry(), for any fields that stand there by then -/
def spOwn1 (C : Addr) : Sp := fun vs H Q _ => ∃ (p dx ac : Addr) (fs : List (Str × V)) (nm own li ve : V) (kvs : List (Key × V)) (ks : List Str), vs = [.ref p] ∧ H p = some (.ins C dx fs) ∧ fs.lookup ("others" : Str) = none ∧ fs.lookup ("name" : Str) = some nm ∧ fs.lookup ("own" : Str) = some own ∧ fs.lookup ("life" : Str) = some li ∧ fs.lookup ("version" : Str) = some ve ∧ fs.lookup ("accounts" : Str) = some (.ref ac) ∧ H ac = some (.dK kvs) ∧ kvs.map (·.1) = ks.map Sum.inr ∧ ks.length < 64 ∧
  ∀ (e r : Addr) (ys : List Str) (H' : Hp), Same H H' → H' e = some (.tup [nm, li, ve, own, .ref r]) → H' r = some (.tup (ys.map V.str)) → ys.Perm ks → sortedS ys = true → Q (.ref e) H'
theorem ok_Hand_own_entry {f C : Addr} {fd : FuncData} (F : FunD K "own_entry" "Hand.own_entry" (defArgs s_Hand_own_entry) (defBody s_Hand_own_entry) (defScope s_Hand_own_entry) [] [] f fd) (T : HandC K C) (m_tuple : mg "tuple" = none) (h_Hand_others : HasM P w K mg base 1 C "others" ["self"] (spOthers C)) : FnOk P w K mg base CX0 2 f fd ["self"] (spOwn1 C) := by
  refine okC F sc_Hand_own_entry (fun vs H Q E h => ?_) (fun A outer s H vs Q E hr h => ?_)
  · obtain ⟨p, dx, ac, fs, nm, own, li, ve, kvs, ks, rfl, _⟩ := h; rfl
  obtain ⟨p, dx, ac, fs, nm, own, li, ve, kvs, ks, rfl, hp, l0, l1, l2, l3, l4, l5, ha, ek, l64, q⟩ := h
  refine ⟨_, PSs.nox (pss_one (ps_ret (pe_tup (pa_cons (pe_fld (pv 0) rfl) (pa_cons (pe_fld (pv 0) rfl) (pa_cons (pe_fld (pv 0) rfl) (pa_cons (pe_fld (pv 0) rfl) (pa_cons (pe_callTy (call_tupleE K) (by rfl) m_tuple (by decide +kernel) (pa_cons (pe_mH0 h_Hand_others (pv 0) (hr.mono (by decide))) pa_nil)) pa_nil)))))))), ?_⟩
  walk_at "zz"
  refine z_fld ?_
  walk_at "zz"
  refine ⟨p, C, dx, _, _, rfl, hp, T.cl, T.n1, l1, ?_⟩
  walk_at "zz"
  refine z_fld ?_
  walk_at "zz"
  refine ⟨p, C, dx, _, _, rfl, hp, T.cl, T.n3, l3, ?_⟩
  walk_at "zz"
  refine z_fld ?_
  walk_at "zz"
  refine ⟨p, C, dx, _, _, rfl, hp, T.cl, T.n4, l4, ?_⟩
  walk_at "zz"
  refine z_fld ?_
  walk_at "zz"
  refine ⟨p, C, dx, _, _, rfl, hp, T.cl, T.n2, l2, ?_⟩
  walk_at "zz"
  refine z_meth ?_
  walk_at "zz"
  refine ⟨p, dx, fs, rfl, hp, l0, ?_⟩
  walk_at "zz"
  refine ⟨p, dx, ac, fs, kvs, ks, rfl, hp, l5, ha, ek, l64, fun l ys H1 n1 e1 h1 pm so => ?_⟩
  walk_at "zz"
  refine z_tupleL h1 (fun r H2 n2 e2 h2 => ?_)
  walk_at "zz"
  refine z_new (by simp) (fun e H3 n3 e3 h3 => ?_)
  exact q e r ys H3 (e1.trans (e2.trans e3)) h3 (e3 _ _ h2) pm so
theorem ok_account_at_first {f : Addr} {fd : FuncData} (F : FnP K "account_at_first" s_account_at_first f fd) : FnOk P w K mg base CX0 2 f fd ["seen", "many"] (fun _ _ _ _ => False) := by
  refine F.ok sc_account_at_first (fun vs H Q E h => h.elim) (fun cdv A outer s H vs Q E hr h => h.elim)
theorem dc_list {a : Addr} {xs : List V} {g : TG} {tt : TT} {tk tv : TE} {vs : List Nat} {σ : L2.St} {H1 : Hp} {D : Addr} {Qd : Hp → Prop} (Pv : Nat → Hp → Prop) (h0 : Pv 0 (upd H1 D (.dK []))) (hl : ∀ i H, i ≤ xs.length → Pv i H → SqL K H a xs)
    (hs : ∀ i x H, xs[i]? = some x → Pv i H → g x (wipe σ vs) H fun σ2 H2 => wipe σ2 vs = wipe σ vs ∧ tt σ2 H2 fun b H3 => if b = true then tk σ2 H3 fun y H4 => tv σ2 H4 fun z H5 => ∃ kvs k, y = kV k ∧ H5 D = some (.dK kvs) ∧ kvs.length < sizeLine ∧ Pv (i + 1) (upd H5 D (.dK (putK kvs k z))) else Pv (i + 1) H3) (hd : ∀ H, Pv xs.length H → Qd H) :
    ∃ W : Nat → Nat → Hp → Prop, (∃ m, W 0 m (upd H1 D (.dK []))) ∧ ∀ i m H, W i m H → ((Itl K a).stop i H ∧ Qd H) ∨ ((Itl K a).go i H ∧ ∃ Nx : Hp → Prop, (∀ H', Nx H' → ∃ m', m' < m ∧ W (i + 1) m' H') ∧ ∀ x H', (Itl K a).yld i H x H' → g x (wipe σ vs) H' fun σ2 H2 => wipe σ2 vs = wipe σ vs ∧ tt σ2 H2 fun b H3 =>
      if b = true then tk σ2 H3 fun y H4 => tv σ2 H4 fun z H5 => ∃ kvs k, y = kV k ∧ H5 D = some (.dK kvs) ∧ kvs.length < sizeLine ∧ Nx (upd H5 D (.dK (putK kvs k z))) else Nx H3) := by
  refine ⟨fun i m H => i ≤ xs.length ∧ m = xs.length - i ∧ Pv i H, ⟨xs.length, Nat.zero_le _, by simp, h0⟩, ?_⟩
  rintro i m H ⟨hi, rfl, p⟩
  have q := hl i H hi p
  by_cases lt : i < xs.length
  · refine .inr ⟨⟨xs, xs[i], q, by simp [lt]⟩, Pv (i + 1), fun H' p' => ⟨xs.length - (i + 1), by omega, lt, rfl, p'⟩, fun x H' y => ?_⟩
    obtain ⟨rfl, y⟩ := y
    exact hs i x _ (y xs q) p
  · have e : i = xs.length := by omega
    subst e
    exact .inl ⟨⟨xs, q, Nat.le_refl _⟩, hd H p⟩
/-- Hand(name, numbers, []): as hand_of makes it -/
def spInit0 (C : Addr) : Sp := fun vs H Q _ => ∃ (p dx q l : Addr) (z : Str) (ns : List Int), vs = [.ref p, .str z, .ref q, .ref l] ∧ H p = some (.ins C dx []) ∧ H q = some (.tup (ns.map V.int)) ∧ H l = some (.lst []) ∧
  ∀ (er ac he : Addr) (H' : Hp), (∀ b o, b ≠ p → H b = some o → H' b = some o) → H' p = some (.ins C dx (hf (.str z) (.ref q) (.int 1) (.int 1) (.ref er) (.ref ac) (.ref he))) → Q .non H'
theorem ok_Hand___init__ {f C : Addr} {fd : FuncData} (F : FunD K "__init__" "Hand.__init__" (defArgs s_Hand___init__) (defBody s_Hand___init__) (defScope s_Hand___init__) [] [] f fd) (T : HandC K C) (m_len : mg "len" = none) (h_account_at_first : Has P w K mg base 2 "account_at_first" ["seen", "many"] (fun _ _ _ _ => False)) (h_Hand_own_entry : HasM P w K mg base 2 C "own_entry" ["self"] (spOwn1 C)) : FnOk P w K mg base CX0 4 f fd ["self", "name", "numbers", "others"] (spInit0 C) := by
  refine okC F sc_Hand___init__ (fun vs H Q E h => ?_) (fun A outer s H vs Q E hr h => ?_)
  · obtain ⟨p, dx, q, l, z, ns, rfl, _⟩ := h; rfl
  obtain ⟨p, dx, qn, l, z, ns, rfl, hp, hq, hl, q⟩ := h
  refine ⟨_, PSs.nox (pss_cons (ps_fld (pv 0) (pv 1) rfl)
  (pss_cons (ps_fld (pv 0) (pv 2) rfl)
  (pss_cons (ps_fld (pv 0) pe_int rfl)
  (pss_cons (ps_fld (pv 0) pe_int rfl)
  (pss_cons (ps_fld (pv 0) (pe_dc (own := [("other", 4)]) (g := (gName 4)) (by rfl) sc_Hand___init__.nd (pi_listE K (pv 3)) (blkOk_by (own := [("other", 4)]) (N := ["self", "name", "numbers", "others", "other"]) (sc := defScope s_Hand___init__) (by decide +kernel)) (fun _ _ _ _ _ => (pg_name (i := 4) sc_Hand___init__.nd rfl (.inl rfl))) (fun _ _ _ _ _ => pts_nil) (fun _ _ _ _ _ => (pv 4)) (fun _ _ _ _ _ => pe_int)) rfl)
  (pss_cons (ps_fld (pv 0) (pe_dc (own := [("other", 4)]) (g := (gName 4)) (by rfl) sc_Hand___init__.nd (pi_listE K (pv 3)) (blkOk_by (own := [("other", 4)]) (N := ["self", "name", "numbers", "others", "other"]) (sc := defScope s_Hand___init__) (by decide +kernel)) (fun _ _ _ _ _ => (pg_name (i := 4) sc_Hand___init__.nd rfl (.inl rfl))) (fun _ _ _ _ _ => pts_nil) (fun _ _ _ _ _ => (pv 4)) (fun _ _ _ _ _ => (pe_callH h_account_at_first (hr.mono (by decide)) (by rfl) (pa_cons pe_non (pa_cons (pe_callB (call_lenE K) (by rfl) m_len (by decide +kernel) (pa_cons (pv 2) pa_nil)) pa_nil))))) rfl)
  (pss_one (ps_fld (pv 0) (pe_tup (pa_cons (pe_mH0 h_Hand_own_entry (pv 0) (hr.mono (by decide))) pa_nil)) rfl)))))))), ?_⟩
  walk_at "zz"
  refine z_sfld ?_
  walk_at "zz"
  refine ⟨p, C, dx, _, rfl, hp, T.cl, T.n1, by simp, ?_⟩
  have hp1 : upd H p (.ins C dx (putF "name" (.str z) [])) p = some (.ins C dx [("name", .str z)]) := by rw [upd_same]; rfl
  have k1 : ∀ b o, b ≠ p → H b = some o → upd H p (.ins C dx (putF "name" (.str z) [])) b = some o := fun b o nb hb => by rw [upd_ne nb]; exact hb
  generalize upd H p (.ins C dx (putF "name" (.str z) [])) = H1 at hp1 k1 ⊢
  walk_at "zz"
  refine z_sfld ?_
  walk_at "zz"
  refine ⟨p, C, dx, _, rfl, hp1, T.cl, T.n2, by simp, ?_⟩
  have hp2 : upd H1 p (.ins C dx (putF "own" (.ref qn) [("name", .str z)])) p = some (.ins C dx [("name", .str z), ("own", .ref qn)]) := by rw [upd_same]; rfl
  have k2 : ∀ b o, b ≠ p → H1 b = some o → upd H1 p (.ins C dx (putF "own" (.ref qn) [("name", .str z)])) b = some o := fun b o nb hb => by rw [upd_ne nb]; exact hb
  generalize upd H1 p (.ins C dx (putF "own" (.ref qn) [("name", .str z)])) = H2 at hp2 k2 ⊢
  walk_at "zz"
  refine z_sfld ?_
  walk_at "zz"
  refine ⟨p, C, dx, _, rfl, hp2, T.cl, T.n3, by simp, ?_⟩
  have hp3 : upd H2 p (.ins C dx (putF "life" (.int 1) [("name", .str z), ("own", .ref qn)])) p = some (.ins C dx [("name", .str z), ("own", .ref qn), ("life", .int 1)]) := by rw [upd_same]; rfl
  have k3 : ∀ b o, b ≠ p → H2 b = some o → upd H2 p (.ins C dx (putF "life" (.int 1) [("name", .str z), ("own", .ref qn)])) b = some o := fun b o nb hb => by rw [upd_ne nb]; exact hb
  generalize upd H2 p (.ins C dx (putF "life" (.int 1) [("name", .str z), ("own", .ref qn)])) = H3 at hp3 k3 ⊢
  walk_at "zz"
  refine z_sfld ?_
  walk_at "zz"
  refine ⟨p, C, dx, _, rfl, hp3, T.cl, T.n4, by simp, ?_⟩
  have hp4 : upd H3 p (.ins C dx (putF "version" (.int 1) [("name", .str z), ("own", .ref qn), ("life", .int 1)])) p = some (.ins C dx [("name", .str z), ("own", .ref qn), ("life", .int 1), ("version", .int 1)]) := by rw [upd_same]; rfl
  have k4 : ∀ b o, b ≠ p → H3 b = some o → upd H3 p (.ins C dx (putF "version" (.int 1) [("name", .str z), ("own", .ref qn), ("life", .int 1)])) b = some o := fun b o nb hb => by rw [upd_ne nb]; exact hb
  generalize upd H3 p (.ins C dx (putF "version" (.int 1) [("name", .str z), ("own", .ref qn), ("life", .int 1)])) = H4 at hp4 k4 ⊢
  have np : p ≠ l := ne_of hp hl (by intro z; cases z)
  have hl4 : H4 l = some (.lst []) := k4 _ _ np.symm (k3 _ _ np.symm (k2 _ _ np.symm (k1 _ _ np.symm hl)))
  walk_at "zz"
  refine z_sfld ?_
  walk_at "zz"
  show iList K _ _ _ _
  walk_at "zz"
  refine ⟨l, rfl, ⟨_, SqL.of hl4⟩, fun E1 nE1 => dc_list (xs := []) (fun i H' => Same H4 H' ∧ H' E1 = some (.dK [])) ⟨same_upd nE1, upd_same⟩ (fun i H' _ h => SqL.of (h.1 _ _ hl4)) (fun i x H' hx => by simp at hx) ?_⟩
  rintro H5 ⟨e5, h5⟩
  have hp5 := e5 _ _ hp4
  have hl5 := e5 _ _ hl4
  walk_at "zz"
  refine ⟨p, C, dx, _, rfl, hp5, T.cl, T.n5, by simp, ?_⟩
  have hp6 : upd H5 p (.ins C dx (putF "eras" (.ref E1) [("name", .str z), ("own", .ref qn), ("life", .int 1), ("version", .int 1)])) p = some (.ins C dx [("name", .str z), ("own", .ref qn), ("life", .int 1), ("version", .int 1), ("eras", .ref E1)]) := by rw [upd_same]; rfl
  have k6 : ∀ b o, b ≠ p → H5 b = some o → upd H5 p (.ins C dx (putF "eras" (.ref E1) [("name", .str z), ("own", .ref qn), ("life", .int 1), ("version", .int 1)])) b = some o := fun b o nb hb => by rw [upd_ne nb]; exact hb
  generalize upd H5 p (.ins C dx (putF "eras" (.ref E1) [("name", .str z), ("own", .ref qn), ("life", .int 1), ("version", .int 1)])) = H6 at hp6 k6 ⊢
  have hl6 := k6 _ _ np.symm hl5
  walk_at "zz"
  refine z_sfld ?_
  walk_at "zz"
  show iList K _ _ _ _
  walk_at "zz"
  refine ⟨l, rfl, ⟨_, SqL.of hl6⟩, fun E2 nE2 => dc_list (xs := []) (fun i H' => Same H6 H' ∧ H' E2 = some (.dK [])) ⟨same_upd nE2, upd_same⟩ (fun i H' _ h => SqL.of (h.1 _ _ hl6)) (fun i x H' hx => by simp at hx) ?_⟩
  rintro H7 ⟨e7, h7⟩
  have hp7 := e7 _ _ hp6
  walk_at "zz"
  refine ⟨p, C, dx, _, rfl, hp7, T.cl, T.n6, by simp, ?_⟩
  have hp8 : upd H7 p (.ins C dx (putF "accounts" (.ref E2) [("name", .str z), ("own", .ref qn), ("life", .int 1), ("version", .int 1), ("eras", .ref E1)])) p = some (.ins C dx [("name", .str z), ("own", .ref qn), ("life", .int 1), ("version", .int 1), ("eras", .ref E1), ("accounts", .ref E2)]) := by rw [upd_same]; rfl
  have k8 : ∀ b o, b ≠ p → H7 b = some o → upd H7 p (.ins C dx (putF "accounts" (.ref E2) [("name", .str z), ("own", .ref qn), ("life", .int 1), ("version", .int 1), ("eras", .ref E1)])) b = some o := fun b o nb hb => by rw [upd_ne nb]; exact hb
  generalize upd H7 p (.ins C dx (putF "accounts" (.ref E2) [("name", .str z), ("own", .ref qn), ("life", .int 1), ("version", .int 1), ("eras", .ref E1)])) = H8 at hp8 k8 ⊢
  have pE : E2 ≠ p := fun e => by rw [e, hp6] at nE2; cases nE2
  have h8 := k8 _ _ pE h7
  dsimp only
  refine z_sfld ?_
  walk_at "zz"
  refine z_meth ?_
  walk_at "zz"
  refine ⟨p, dx, _, rfl, hp8, rfl, ?_⟩
  walk_at "zz"
  refine ⟨p, dx, E2, _, _, _, _, _, [], [], rfl, hp8, rfl, rfl, rfl, rfl, rfl, rfl, h8, rfl, by decide, fun en r ys H9 e9 h9 _ _ _ => ?_⟩
  walk_at "zz"
  refine z_new (by simp) (fun he Ha na ea ha => ?_)
  have hpa := ea _ _ (e9 _ _ hp8)
  walk_at "zz"
  refine ⟨p, C, dx, _, rfl, hpa, T.cl, T.n7, by simp, ?_⟩
  refine q E1 E2 he _ (fun b o nb hb => ?_) (by rw [upd_same]; rfl)
  rw [upd_ne nb]
  exact ea _ _ (e9 _ _ (k8 b o nb (e7 _ _ (k6 b o nb (e5 _ _ (k4 b o nb (k3 b o nb (k2 b o nb (k1 b o nb hb)))))))))
/-! ### a hand's dicts -/
theorem tup_list {a : Addr} {xs : List V} {g : TG} {tt : TT} {te : TE} {vs : List Nat} {σw : L2.St} {D : Addr} {H0 : Hp} {Qe : Hp → Prop} (Pv : Nat → Hp → Prop) (h0 : Pv 0 H0) (hq : ∀ i H, Pv i H → SqL K H a xs)
    (hs : ∀ i x H, xs[i]? = some x → Pv i H → g x σw H fun σ2 H2 => wipe σ2 vs = σw ∧ tt σ2 H2 fun b H3 => if b = true then te σ2 H3 fun y H4 => ∃ acc, H4 D = some (.lst acc) ∧ acc.length < sizeLine ∧ Pv (i + 1) (upd H4 D (.lst (acc ++ [y]))) else Pv (i + 1) H3) (hd : ∀ H, Pv xs.length H → Qe H) :
    ∃ W : Nat → Nat → Hp → Prop, (∃ m, W 0 m H0) ∧ TupTurns (Itl K a) g tt te vs σw D W Qe := by
  refine tup_steps xs.length Pv h0 (fun i H hi p => ⟨xs, xs[i], hq i H p, List.getElem?_eq_getElem hi⟩) (fun H p => ⟨xs, hq _ H p, Nat.le_refl _⟩) (fun i H x H' hi p hy => ?_) hd
  obtain ⟨rfl, hx⟩ := hy
  exact hs i x _ (hx xs (hq i _ p)) p
theorem pe_fldE {X : Cx} (K : PySem.W.Frag) {e : Expr} {ta : TE} {f : Str} {pos : Pos} (he : PE X e ta) (hb : attributeBase e f X.env (eval e X.env) = eval e X.env) (ek : X.K = K := by rfl) : PE X (.Attribute e f pos) (tFld K ta f) := by rw [← ek]; exact pe_fld he hb
abbrev nmsD (ds : List PyData) : List Str := ds.map fun x => strD (firstD x)
inductive DcAll (H : Hp) (f : List PyData → PyData) : List (Key × V) → List PyData → Prop
  | nil : DcAll H f [] []
  | cons {z : Str} {w : V} {r : List PyData} {kvs : List (Key × V)} {ds : List PyData} : Da H w (f r) → DcAll H f kvs ds → DcAll H f ((.inr z, w) :: kvs) (.tuple (.str z :: r) :: ds)
theorem DcAll.mv {H H' : Hp} {f : List PyData → PyData} (k : KD H H') : ∀ {kvs : List (Key × V)} {ds : List PyData}, DcAll H f kvs ds → DcAll H' f kvs ds
  | _, _, .nil => .nil
  | _, _, .cons a g => .cons (a.mv k) (DcAll.mv k g)
theorem DcAll.keys {H : Hp} {f : List PyData → PyData} : ∀ {kvs : List (Key × V)} {ds : List PyData}, DcAll H f kvs ds → kvs.map (·.1) = (nmsD ds).map Sum.inr
  | _, _, .nil => rfl
  | _, _, .cons (z := z) a g => by
    rw [List.map_cons, DcAll.keys g]
    rfl
theorem DcAll.len {H : Hp} {f : List PyData → PyData} : ∀ {kvs : List (Key × V)} {ds : List PyData}, DcAll H f kvs ds → kvs.length = ds.length
  | _, _, .nil => rfl
  | _, _, .cons _ g => by rw [List.length_cons, List.length_cons, DcAll.len g]
theorem DcAll.none {H : Hp} {f : List PyData → PyData} {y : Str} : ∀ {kvs : List (Key × V)} {ds : List PyData}, DcAll H f kvs ds → y ∉ nmsD ds → valV kvs (.inr y) = none
  | _, _, .nil, _ => rfl
  | _, _, .cons (z := z) a g, h => by
    rw [valV_neg (by show Sum.inr z ≠ _; intro q; cases q; exact h (by simp [nmsD, firstD, strD]))]
    exact DcAll.none g fun q => h (by rw [nmsD, List.map_cons]; exact List.mem_cons_of_mem _ q)
theorem DcAll.val {H : Hp} {f : List PyData → PyData} {y : Str} {r : List PyData} : ∀ {kvs : List (Key × V)} {ds : List PyData} {i : Nat}, DcAll H f kvs ds → (nmsD ds).Nodup → ds[i]? = some (.tuple (.str y :: r)) → ∃ w, valV kvs (.inr y) = some w ∧ Da H w (f r)
  | _, _, _, .nil, _, h => by simp at h
  | _, _, 0, .cons a g, _, h => by
    cases h
    exact ⟨_, valV_pos rfl, a⟩
  | _, _, i + 1, .cons (z := z) (ds := ds) a g, nd, h => by
    have h' : ds[i]? = some (.tuple (.str y :: r)) := h
    obtain ⟨n1, n2⟩ := List.nodup_cons.mp nd
    obtain ⟨w, e, d⟩ := DcAll.val g n2 h'
    refine ⟨w, ?_, d⟩
    rw [valV_neg (by show Sum.inr z ≠ _; intro q; cases q; exact n1 (List.mem_map.mpr ⟨_, List.mem_of_getElem? h', rfl⟩))]
    exact e
theorem DcAll.snoc {H : Hp} {f : List PyData → PyData} {z : Str} {w : V} {r : List PyData} (h : Da H w (f r)) : ∀ {kvs : List (Key × V)} {ds : List PyData}, DcAll H f kvs ds → DcAll H f (kvs ++ [(.inr z, w)]) (ds ++ [.tuple (.str z :: r)])
  | _, _, .nil => .cons h .nil
  | _, _, .cons a g => .cons a (DcAll.snoc h g)
def fE (r : List PyData) : PyData := r.headD .none
def fA (r : List PyData) : PyData := .tuple r
structure HandH (C : Addr) (H : Hp) (p : Addr) (z : Str) (l ve : Int) (us es as rs : List PyData) : Prop where
  ex : ∃ (dx : Addr) (u : V) (er ac : Addr) (r : V) (kE kA : List (Key × V)), H p = some (.ins C dx (hf (.str z) u (.int l) (.int ve) (.ref er) (.ref ac) r)) ∧ Da H u (.tuple us) ∧ Da H r (.tuple rs) ∧ H er = some (.dK kE) ∧ DcAll H fE kE es ∧ H ac = some (.dK kA) ∧ DcAll H fA kA as
theorem rise_sorted : ∀ {zs : List Str}, riseB zs = true → sortedS zs = true
  | [], _ => rfl
  | [x], _ => rfl
  | x :: y :: l, h => by
    unfold riseB at h
    rw [Bool.and_eq_true, decide_eq_true_eq] at h
    have ih : risingS y l = true := rise_sorted h.2
    show (!ltCps y.cps.toList x.cps.toList && risingS y l) = true
    rw [ih, ltCps_eq, decide_eq_false (lex_asym _ _ h.1)]
    rfl
theorem rise_nd {zs : List Str} (h : riseB zs = true) : zs.Nodup := List.Pairwise.imp (S := fun a b : Str => a ≠ b) (fun {a b} (hab : a.cps.toList < b.cps.toList) (e : a = b) => txt_irr b.cps.toList (by rw [e] at hab; exact hab)) (rise_pw h)
theorem kdK {Pt D : Addr} {H H' : Hp} (k : Kd Pt D H H') (n : H D = none) (h : GxR.TabG H Pt) : KD H H' := ⟨fun _ _ q => k.get n h q (fun _ z => by cases z), fun _ _ q => k.get n h q (fun _ z => by cases z)⟩
theorem era_noL {x : PyData} (h : eraD x = true) : noL x = true := by
  obtain ⟨z, c, rfl, _⟩ := era_shape h
  rfl
theorem row_noL {n : Nat} {x : PyData} (h : rowD n x = true) : noL x = true := by
  obtain ⟨ps, rfl, _, h⟩ := row_shape h
  show noLs ps = true
  refine noLs_iff.mpr fun x hx => ?_
  obtain ⟨a, b, rfl, _⟩ := h x hx
  rfl
theorem count_noL {c : Int} {x : PyData} (h : countD c x = true) : noL x = true := by
  obtain ⟨i, rfl⟩ := count_int h
  rfl
theorem seen_noL {x : PyData} (h : seenD x = true) : noL x = true := by
  cases x with
  | tuple ds =>
    have h1 : stampD (.tuple ds) = true := h
    clear h
    unfold stampD at h1
    split at h1
    · rename_i a b e
      cases e
      rw [Bool.and_eq_true] at h1
      show (noL a && (noL b && true)) = true
      rw [count_noL h1.1, count_noL h1.2]
      rfl
    · cases h1
  | list ds => cases h
  | _ => rfl
theorem acc_noL {n : Nat} {x : PyData} (h : accD n x = true) : noL x = true := by
  obtain ⟨z, s, g, r, t, q, rfl, h1, h2, h3, h4, h5, h6⟩ := acc_shape h
  rw [name_str h1]
  show (true && (noL s && (noL g && (noL r && (noL t && (noL q && true)))))) = true
  rw [seen_noL h2, count_noL h3, row_noL h4, count_noL h5, row_noL h6]
  rfl
theorem ent_noL {n : Nat} {x : PyData} (h : entryD n x = true) : noL x = true := by
  obtain ⟨z, l, v, us, os, rfl, _, _, _, h4, _, h6⟩ := entry_shape h
  have u : noLs us = true := noLs_iff.mpr fun x hx => by
    have := (nums_len h4).2.2 x hx
    cases x <;> first | rfl | cases this
  have o : noLs os = true := noLs_iff.mpr fun x hx => by
    rw [name_str ((oth_split h6).nm x hx)]
    rfl
  simp only [noL, noLs, u, o]
  rfl
def spHBooks (Ps : List Addr) (C : Addr) : Sp := fun vs H Q _ => ∃ (p : Addr) (z : Str) (l ve : Int) (us es as rs : List PyData), vs = [.ref p] ∧ HandH C H p z l ve us es as rs ∧ Good z l ve us es as rs ∧ TGs H Ps ∧ nmB z = true ∧ ∀ (v : V) (H' : Hp), Kc Ps H H' → Da H' v (.tuple (bkL z l ve us es as rs)) → Q v H'
theorem ok_Hand_books {f C ca Pt : Addr} {Ps : List Addr} {fd : FuncData} (F : FunD K "books" "Hand.books" (defArgs s_Hand_books) (defBody s_Hand_books) (defScope s_Hand_books) [] [] f fd) (hcd : fd.code = .ref ca) (TB : GxR.TabB base mg ca Pt) (iP : Pt ∈ Ps) (T : HandC K C) (m_sorted : mg "sorted" = none) (m_tuple : mg "tuple" = none) (h_Hand_others : HasM P w K mg base 1 C "others" ["self"] (spOthers C)) : FnOk P w K mg base CX0 8 f fd ["self"] (spHBooks Ps C) := by
  refine okC F sc_Hand_books (fun vs H Q E h => ?_) (fun A outer s H vs Q E hr h => ?_)
  · obtain ⟨p, z, l, ve, us, es, as, rs, rfl, _⟩ := h; rfl
  obtain ⟨p, z, l, ve, us, es, as, rs, rfl, hh, G, hT, nz, q⟩ := h
  obtain ⟨dx, u, er, ac, r, kE, kA, hp, du, dr, he, dE, ha, dA⟩ := hh.ex
  have e10 := G.e10
  have a10 := G.a10
  have uE := G.eR.up
  have uA := G.aR.up
  refine ⟨_, PSs.nox (pss_cons (ps_set (i := 1) sc_Hand_books.nd rfl (.inl rfl) (pe_tupG (k := 0) (own := [("other", 3)]) (g := gName 3) (hr.mono (by decide)) (by rfl) m_tuple TB hcd (by rfl) sc_Hand_books.nd (pi_listE K (pe_callB (call_sortedD rfl) (by rfl) m_sorted (by decide +kernel) (pa_cons (pe_fldE K (pv 0) rfl) pa_nil))) (blkOk_by (own := [("other", 3)]) (N := ["self", "eras", "accounts", "other"]) (sc := defScope s_Hand_books) (by decide +kernel)) ⟨rfl, by decide +kernel, rfl⟩ (fun _ _ _ _ _ _ _ hr => (pg_name (i := 3) sc_Hand_books.nd rfl (.inl rfl))) (fun _ _ _ _ _ _ _ hr => pts_nil) (fun _ _ _ _ _ _ _ hr => (pe_tup (pa_cons (pv 3) (pa_cons (pe_dget (hu_of hr) (pe_fldE K (pv 0) rfl) (pv 3) (fun _ _ => rfl)) pa_nil)))) (fun _ => rfl)))
  (pss_cons (ps_set (i := 2) sc_Hand_books.nd rfl (.inl rfl) (pe_tupG (k := 0) (own := [("other", 3)]) (g := gName 3) (hr.mono (by decide)) (by rfl) m_tuple TB hcd (by rfl) sc_Hand_books.nd (pi_listE K (pe_mH0 h_Hand_others (pv 0) (hr.mono (by decide)))) (blkOk_by (own := [("other", 3)]) (N := ["self", "eras", "accounts", "other"]) (sc := defScope s_Hand_books) (by decide +kernel)) ⟨rfl, by decide +kernel, rfl⟩ (fun _ _ _ _ _ _ _ hr => (pg_name (i := 3) sc_Hand_books.nd rfl (.inl rfl))) (fun _ _ _ _ _ _ _ hr => pts_nil) (fun _ _ _ _ _ _ _ hr => (pe_op (op_catE K) (pe_tup (pa_cons (pv 3) pa_nil)) (pe_dget (hu_of hr) (pe_fldE K (pv 0) rfl) (pv 3) (fun _ _ => rfl)))) (fun _ => rfl)))
  (pss_one (ps_ret (pe_tup (pa_cons (pe_fld (pv 0) rfl) (pa_cons (pe_fld (pv 0) rfl) (pa_cons (pe_fld (pv 0) rfl) (pa_cons (pe_fld (pv 0) rfl) (pa_cons (pv 1) (pa_cons (pv 2) (pa_cons (pe_fld (pv 0) rfl) pa_nil)))))))))))), ?_⟩
  walk_at "zz"
  refine z_tupG ?_
  walk_at "zz"
  refine z_fld ?_
  walk_at "zz"
  refine ⟨p, C, dx, _, _, rfl, hp, T.cl, T.n5, hf_er, ?_⟩
  walk_at "zz"
  refine ⟨er, kE, nmsD es, rfl, .inl he, dE.keys, by rw [List.length_map]; omega, fun ys l1 pm so nl => ?_⟩
  have ey := sorted_one so (rise_sorted uE) pm
  subst ey
  have e1 : Same H (upd H l1 (.lst ((nmsD es).map V.str))) := same_upd nl
  have h1 : upd H l1 (.lst ((nmsD es).map V.str)) l1 = some (.lst ((nmsD es).map V.str)) := upd_same
  generalize upd H l1 (.lst ((nmsD es).map V.str)) = H1 at e1 h1 ⊢
  have c1 := Kc.of_same hT e1
  walk_at "zz"
  refine ⟨l1, rfl, ⟨_, SqL.of h1⟩, c1.tg _ iP, fun H2 T2 D nD => ?_⟩
  have nD1 : H1 D = none := tab_back T2 nD
  have hT1 := c1.tg _ iP
  refine tup_list (xs := (nmsD es).map V.str) (fun i H' => Kd Pt D H1 H' ∧ ∃ acc, H' D = some (.lst acc) ∧ DaAll H' acc (es.take i)) ⟨Kd.start T2 nD, [], upd_same, .nil⟩ (fun i H' h => SqL.of (h.1.get nD1 hT1 h1 (fun _ z => by cases z))) ?_ ?_
  · rintro i x H3 hx ⟨k3, acc, hD, ga⟩
    rw [List.getElem?_map] at hx
    obtain ⟨y, hy, rfl⟩ := Option.map_eq_some_iff.mp hx
    rw [List.getElem?_map] at hy
    obtain ⟨d, hd, rfl⟩ := Option.map_eq_some_iff.mp hy
    have md := List.mem_of_getElem? hd
    have nl := era_noL (G.era d md)
    obtain ⟨zy, c, rfl, nzy, _⟩ := era_shape (G.era d md)
    obtain ⟨w1, ew, dw⟩ := dE.val (rise_nd uE) hd
    cases dw.intE
    refine ⟨rfl, ?_⟩
    walk_at "zz"
    have he3 := k3.get nD1 hT1 (e1 _ _ he) (fun _ z => by cases z)
    have g3 := DGet.k (k := .inr zy) he3
    rw [ew] at g3
    refine ⟨_, rfl, p, C, dx, _, _, rfl, k3.get nD1 hT1 (e1 _ _ hp) (fun _ z => by cases z), T.cl, T.n5, hf_er, _, rfl, er, .int c, rfl, g3, ?_⟩
    walk_at "zz"
    refine d_tup (.cons (Da.nm nzy) (.cons (.int c) .nil)) (by simp) (fun p4 H4 e4 b4 => ?_)
    have hD4 := e4 _ _ hD
    have la := ga.len
    rw [List.length_take] at la
    refine ⟨acc, hD4, small1000 (by omega), (k3.same e4).upd hD4, _, upd_same, ?_⟩
    rw [List.take_add_one, hd]
    refine DaAll.app (DaAll.mvT (KT.updL hD4) (DaAll.mv (KD.of_same e4) ga) (noLs_iff.mpr fun d hd => era_noL (G.era d (List.mem_of_mem_take hd)))) (.cons (Da.mvT (KT.updL hD4) b4 rfl) .nil)
  rintro H3 ⟨k3, acc, hD, ga⟩
  rw [List.take_of_length_le (by rw [List.length_map, List.length_map]; exact Nat.le_refl _)] at ga
  refine ⟨_, hD, fun r1 nr => ?_⟩
  have c3 := c1.trans (Kc.of_kt c1.tg iP (k3.kt nD1))
  have e4 : Same H3 (upd H3 r1 (.tup acc)) := same_upd nr
  have h4 : upd H3 r1 (.tup acc) r1 = some (.tup acc) := upd_same
  generalize upd H3 r1 (.tup acc) = H4 at e4 h4 ⊢
  have b4 : Da H4 (.ref r1) (.tuple es) := .tup h4 (DaAll.mv (KD.of_same e4) ga)
  have c4 := c3.trans (Kc.of_same c3.tg e4)
  clear hD ga c3 k3 nD nD1 T2 pm so h1 e1
  have hp4 := c4.kp _ _ (fun _ z => by cases z) hp
  have ha4 := c4.kp _ _ (fun _ z => by cases z) ha
  walk_at "zz"
  refine z_tupG ?_
  walk_at "zz"
  refine z_meth ?_
  walk_at "zz"
  refine ⟨p, dx, _, rfl, hp4, rfl, ?_⟩
  walk_at "zz"
  refine ⟨p, dx, ac, _, kA, nmsD as, rfl, hp4, hf_ac, ha4, dA.keys, by rw [List.length_map]; omega, fun l5 ys H5 n5 e5 h5 pm so => ?_⟩
  have ey := sorted_one so (rise_sorted uA) pm
  subst ey
  have c5 := c4.trans (Kc.of_same c4.tg e5)
  have hT5 := c5.tg _ iP
  walk_at "zz"
  refine ⟨l5, rfl, ⟨_, SqL.of h5⟩, hT5, fun H6 T6 D nD => ?_⟩
  have nD5 : H5 D = none := tab_back T6 nD
  refine tup_list (xs := (nmsD as).map V.str) (fun i H' => Kd Pt D H5 H' ∧ ∃ acc, H' D = some (.lst acc) ∧ DaAll H' acc (as.take i)) ⟨Kd.start T6 nD, [], upd_same, .nil⟩ (fun i H' h => SqL.of (h.1.get nD5 hT5 h5 (fun _ z => by cases z))) ?_ ?_
  · rintro i x H7 hx ⟨k7, acc, hD, ga⟩
    rw [List.getElem?_map] at hx
    obtain ⟨y, hy, rfl⟩ := Option.map_eq_some_iff.mp hx
    rw [List.getElem?_map] at hy
    obtain ⟨d, hd, rfl⟩ := Option.map_eq_some_iff.mp hy
    have md := List.mem_of_getElem? hd
    have nl := acc_noL (G.acc d md)
    obtain ⟨zy, rr, rfl, lr⟩ := G.aR.hd d md
    have nzy : nmB zy = true := by
      obtain ⟨_, _, _, _, _, _, e, h1, _⟩ := acc_shape (G.acc _ md)
      cases e
      exact h1
    obtain ⟨w1, ew, dw⟩ := dA.val (rise_nd uA) hd
    have ha7 := k7.get nD5 hT5 (e5 _ _ ha4) (fun _ z => by cases z)
    have g7 := DGet.k (k := .inr zy) ha7
    rw [ew] at g7
    have k57 := kdK k7 nD5 hT5
    refine ⟨rfl, ?_⟩
    walk_at "zz"
    refine d_tup (.cons (Da.nm nzy) .nil) (by simp) (fun p8 H8 e8 b8 => ?_)
    refine ⟨_, rfl, p, C, dx, _, _, rfl, e8 _ _ (k7.get nD5 hT5 (e5 _ _ hp4) (fun _ z => by cases z)), T.cl, T.n6, hf_ac, _, rfl, ac, w1, rfl, ?_, ?_⟩
    · have g8 := DGet.k (k := .inr zy) (e8 _ _ ha7)
      rw [ew] at g8
      exact g8
    refine d_cat b8 (dw.mv (((KD.of_kp c5.kp).trans k57).trans (KD.of_same e8))) (by simp only [List.length_cons, List.length_nil]; omega) (fun p9 H9 e9 b9 => ?_)
    have e79 := e8.trans e9
    have hD9 := e79 _ _ hD
    have la := ga.len
    rw [List.length_take] at la
    refine ⟨acc, hD9, small1000 (by omega), (k7.same e79).upd hD9, _, upd_same, ?_⟩
    rw [List.take_add_one, hd]
    refine DaAll.app (DaAll.mvT (KT.updL hD9) (DaAll.mv (KD.of_same e79) ga) (noLs_iff.mpr fun d hd => acc_noL (G.acc d (List.mem_of_mem_take hd)))) (.cons (Da.mvT (KT.updL hD9) b9 nl) .nil)
  rintro H7 ⟨k7, acc, hD, ga⟩
  rw [List.take_of_length_le (by rw [List.length_map, List.length_map]; exact Nat.le_refl _)] at ga
  refine ⟨_, hD, fun r2 nr => ?_⟩
  have c7 := c5.trans (Kc.of_kt c5.tg iP (k7.kt nD5))
  have e8 : Same H7 (upd H7 r2 (.tup acc)) := same_upd nr
  have h8 : upd H7 r2 (.tup acc) r2 = some (.tup acc) := upd_same
  have b4' := b4.mv ((KD.of_same e5).trans ((kdK k7 nD5 hT5).trans (KD.of_same e8)))
  generalize upd H7 r2 (.tup acc) = H8 at e8 h8 b4' ⊢
  have b8 : Da H8 (.ref r2) (.tuple as) := .tup h8 (DaAll.mv (KD.of_same e8) ga)
  have c8 := c7.trans (Kc.of_same c7.tg e8)
  have hp8 := c8.kp _ _ (fun _ z => by cases z) hp
  walk_at "zz"
  refine z_fld ?_
  walk_at "zz"
  refine ⟨p, C, dx, _, _, rfl, hp8, T.cl, T.n1, hf_nm, ?_⟩
  walk_at "zz"
  refine z_fld ?_
  walk_at "zz"
  refine ⟨p, C, dx, _, _, rfl, hp8, T.cl, T.n3, hf_li, ?_⟩
  walk_at "zz"
  refine z_fld ?_
  walk_at "zz"
  refine ⟨p, C, dx, _, _, rfl, hp8, T.cl, T.n4, hf_ve, ?_⟩
  walk_at "zz"
  refine z_fld ?_
  walk_at "zz"
  refine ⟨p, C, dx, _, _, rfl, hp8, T.cl, T.n2, hf_own, ?_⟩
  walk_at "zz"
  refine z_fld ?_
  walk_at "zz"
  refine ⟨p, C, dx, _, _, rfl, hp8, T.cl, T.n7, hf_he, ?_⟩
  walk_at "zz"
  have k8 := KD.of_kp c8.kp
  refine d_tup (.cons (Da.nm nz) (.cons (.int l) (.cons (.int ve) (.cons (du.mv k8) (.cons b4' (.cons b8 (.cons (dr.mv k8) .nil))))))) (by simp) (fun p9 H9 e9 b9 => ?_)
  exact q _ _ (c8.trans (Kc.of_same c8.tg e9)) b9
theorem dc_tup {a : Addr} {xs : List V} {g : TG} {tt : TT} {tk tv : TE} {vs : List Nat} {σ : L2.St} {H1 : Hp} {D : Addr} {Qd : Hp → Prop} (Pv : Nat → Hp → Prop) (h0 : Pv 0 (upd H1 D (.dK []))) (hl : ∀ i H, i ≤ xs.length → Pv i H → SqT K H a xs)
    (hs : ∀ i x H, xs[i]? = some x → Pv i H → g x (wipe σ vs) H fun σ2 H2 => wipe σ2 vs = wipe σ vs ∧ tt σ2 H2 fun b H3 => if b = true then tk σ2 H3 fun y H4 => tv σ2 H4 fun z H5 => ∃ kvs k, y = kV k ∧ H5 D = some (.dK kvs) ∧ kvs.length < sizeLine ∧ Pv (i + 1) (upd H5 D (.dK (putK kvs k z))) else Pv (i + 1) H3) (hd : ∀ H, Pv xs.length H → Qd H) :
    ∃ W : Nat → Nat → Hp → Prop, (∃ m, W 0 m (upd H1 D (.dK []))) ∧ ∀ i m H, W i m H → ((Itt K a).stop i H ∧ Qd H) ∨ ((Itt K a).go i H ∧ ∃ Nx : Hp → Prop, (∀ H', Nx H' → ∃ m', m' < m ∧ W (i + 1) m' H') ∧ ∀ x H', (Itt K a).yld i H x H' → g x (wipe σ vs) H' fun σ2 H2 => wipe σ2 vs = wipe σ vs ∧ tt σ2 H2 fun b H3 =>
      if b = true then tk σ2 H3 fun y H4 => tv σ2 H4 fun z H5 => ∃ kvs k, y = kV k ∧ H5 D = some (.dK kvs) ∧ kvs.length < sizeLine ∧ Nx (upd H5 D (.dK (putK kvs k z))) else Nx H3) := by
  refine ⟨fun i m H => i ≤ xs.length ∧ m = xs.length - i ∧ Pv i H, ⟨xs.length, Nat.zero_le _, by simp, h0⟩, ?_⟩
  rintro i m H ⟨hi, rfl, p⟩
  have q := hl i H hi p
  by_cases lt : i < xs.length
  · refine .inr ⟨⟨xs, xs[i], q, by simp [lt]⟩, Pv (i + 1), fun H' p' => ⟨xs.length - (i + 1), by omega, lt, rfl, p'⟩, fun x H' y => ?_⟩
    obtain ⟨rfl, y⟩ := y
    exact hs i x _ (y xs q) p
  · have e : i = xs.length := by omega
    subst e
    exact .inl ⟨⟨xs, q, Nat.le_refl _⟩, hd H p⟩
theorem DaAll.ints {H : Hp} : ∀ {xs : List V} {us : List PyData}, DaAll H xs us → (∀ x ∈ us, ownD x = true) → ∃ ns : List Int, xs = ns.map V.int
  | _, _, .nil, _ => ⟨[], rfl⟩
  | _, _, .cons (d := d) a g, h => by
    have hd := h d (by simp)
    obtain ⟨ns, rfl⟩ := DaAll.ints g fun x hx => h x (by simp [hx])
    cases a <;> first | cases hd | skip
    rename_i i
    exact ⟨i :: ns, rfl⟩
theorem z_make {C : Addr} {sp : Sp} {E : XK} {t : TA} {σ : L2.St} {H : Hp} {Q : VK} (q : t σ H fun vs H1 => ∀ x dx, H1 x = none → H1 dx = none → dx ≠ x → sp (.ref x :: (vs ++ [])) (upd (upd H1 dx (.own x)) x (.ins C dx [])) (fun v H2 => v = .non ∧ Q (.ref x) H2) E) : tMake C sp [] E t σ H Q := q
theorem KD.updD {H : Hp} {D : Addr} {a b : List (Key × V)} (h : H D = some (.dK a)) : KD H (upd H D (.dK b)) :=
  ⟨fun c xs hc => by rw [upd_ne (ne_of hc h (by intro z; cases z))]; exact hc, fun c xs hc => by rw [upd_ne (ne_of hc h (by intro z; cases z))]; exact hc⟩
theorem name_out {ds : List PyData} (h : riseB (nmsD ds) = true) {i : Nat} {d : PyData} (hd : ds[i]? = some d) : strD (firstD d) ∉ nmsD (ds.take i) := fun hm => by
  obtain ⟨e, he, q⟩ := List.mem_map.mp hm
  obtain ⟨j, hj, ej⟩ := List.getElem_of_mem he
  obtain ⟨hi, ei⟩ := List.getElem?_eq_some_iff.mp hd
  rw [List.length_take] at hj
  rw [List.getElem_take] at ej
  have := List.pairwise_iff_getElem.mp (List.pairwise_map.mp (rise_pw h)) j i (by omega) hi (by omega)
  rw [ej, ei, q] at this
  exact txt_irr _ this
def spHandOf (Ps : List Addr) (C CB : Addr) : Sp := fun vs H Q E => ∃ (v : V) (d : PyData), vs = [v] ∧ Da H v d ∧ szD d ∧ TGs H Ps ∧ ((booksD d = false ∧ ∀ H2, Kc Ps H H2 → E (.ref CB) none H2) ∨
  ∃ (z : Str) (l ve : Int) (us es as rs : List PyData), d = .tuple (bkL z l ve us es as rs) ∧ Good z l ve us es as rs ∧ ∀ p H', Kc Ps H H' → HandH C H' p z l ve us es as rs → Q (.ref p) H')
theorem ok_hand_of {f C CB : Addr} {Ps : List Addr} {fd : FuncData} (F : FnP K "hand_of" s_hand_of f fd) (T : HandC K C) (e_BadBooks : ErrC K CB) (g_BadBooks : mg "BadBooks" = some (.ref CB)) (h_is_books : Has P w K mg base 17 "is_books" ["thing"] (spBooks Ps)) (h_Hand : HasC P w K mg base 4 C "Hand" ["self", "name", "numbers", "others"] (spInit0 C)) : FnOk P w K mg base (L2.CX P w) 18 f fd ["books"] (spHandOf Ps C CB) := by
  refine okCX F sc_hand_of (fun vs H Q E h => ?_) (fun A outer s H vs Q E hr h => ?_)
  · obtain ⟨v, d, rfl, _⟩ := h; rfl
  obtain ⟨v, d, rfl, hv, sz, hT, h⟩ := h
  refine ⟨_, (pss_cons (ps_if (pt_not (pt_val (pe_callH h_is_books (hr.mono (by decide)) (by rfl) (pa_cons (pv 0) pa_nil))))
    (pss_one (ps_raise rfl (takes_of rfl rfl rfl rfl) (pmk_err e_BadBooks g_BadBooks (by rfl))))
    pss_nil)
  (pss_cons (ps_asg (pv 0) (pg_tup rfl (pgs_cons (pg_name (i := 1) sc_hand_of.nd rfl (.inl rfl)) (pgs_cons (pg_name (i := 2) sc_hand_of.nd rfl (.inl rfl)) (pgs_cons (pg_name (i := 3) sc_hand_of.nd rfl (.inl rfl)) (pgs_cons (pg_name (i := 4) sc_hand_of.nd rfl (.inl rfl)) (pgs_cons (pg_name (i := 5) sc_hand_of.nd rfl (.inl rfl)) (pgs_cons (pg_name (i := 6) sc_hand_of.nd rfl (.inl rfl)) (pgs_cons (pg_name (i := 7) sc_hand_of.nd rfl (.inl rfl)) pgs_nil)))))))))
  (pss_cons (ps_set (i := 8) sc_hand_of.nd rfl (.inl rfl) (pe_newH h_Hand (hr.mono (by decide)) (by rfl) (pa_cons (pv 1) (pa_cons (pv 4) (pa_cons (pe_lst pa_nil) pa_nil)))))
  (pss_cons (ps_fld (pv 8) (pv 2) rfl)
  (pss_cons (ps_fld (pv 8) (pv 3) rfl)
  (pss_cons (ps_fld (pv 8) (pe_dc (own := [("other", 9), ("era", 10)]) (g := (gTup K 2 (gCons (gName 9) (gCons (gName 10) gNil)))) (by rfl) sc_hand_of.nd (pi_tupE K (pv 5)) (blkOk_by (own := [("other", 9), ("era", 10)]) (N := ["books", "name", "life", "version", "numbers", "eras", "accounts", "roll", "hand", "other", "era", "account"]) (sc := defScope s_hand_of) (by decide +kernel)) (fun _ _ _ _ _ => (pg_tup rfl (pgs_cons (pg_name (i := 9) sc_hand_of.nd rfl (.inl rfl)) (pgs_cons (pg_name (i := 10) sc_hand_of.nd rfl (.inl rfl)) pgs_nil)))) (fun _ _ _ _ _ => pts_nil) (fun _ _ _ _ _ => (pv 9)) (fun _ _ _ _ _ => (pv 10))) rfl)
  (pss_cons (ps_fld (pv 8) (pe_dc (own := [("account", 11)]) (g := (gName 11)) (by rfl) sc_hand_of.nd (pi_tupE K (pv 6)) (blkOk_by (own := [("account", 11)]) (N := ["books", "name", "life", "version", "numbers", "eras", "accounts", "roll", "hand", "other", "era", "account"]) (sc := defScope s_hand_of) (by decide +kernel)) (fun _ _ _ _ _ => (pg_name (i := 11) sc_hand_of.nd rfl (.inl rfl))) (fun _ _ _ _ _ => pts_nil) (fun _ _ _ _ _ => (pe_ix (ix_tupE K) (pv 11) pe_int (fun _ _ => rfl))) (fun _ _ _ _ _ => (pe_slice (sl_tupE K) (pv 11) (po_some pe_int) po_none))) rfl)
  (pss_cons (ps_fld (pv 8) (pv 7) rfl)
  (pss_one (ps_ret (pv 8))))))))))), ?_⟩
  walk_at "zz"
  refine ⟨v, d, rfl, hv, sz, hT, fun H2 c2 => ?_⟩
  rcases h with ⟨no, q⟩ | ⟨z, l, ve, us, es, as, rs, rfl, G, q⟩
  · rw [no]
    walk_at "zz"
    exact q H2 c2
  · rw [books_of G.b]
    have k2 := KD.of_kp c2.kp
    have hv2 := hv.mv k2
    obtain ⟨p, xs, rfl, hp, g⟩ := hv2.tupE
    rcases g with _ | ⟨a1, g⟩
    rcases g with _ | ⟨a2, g⟩
    rcases g with _ | ⟨a3, g⟩
    rcases g with _ | ⟨a4, g⟩
    rcases g with _ | ⟨a5, g⟩
    rcases g with _ | ⟨a6, g⟩
    rcases g with _ | ⟨a7, g⟩
    cases g
    obtain ⟨rfl, _, _⟩ := id a1.strE
    cases a2.intE
    cases a3.intE
    obtain ⟨pn, nx, rfl, hpn, gn⟩ := id a4.tupE
    obtain ⟨ns, rfl⟩ := DaAll.ints gn G.un.2.2
    obtain ⟨pe, ex, rfl, hpe, ge⟩ := id a5.tupE
    obtain ⟨pc, cx, rfl, hpc, gc⟩ := id a6.tupE
    obtain ⟨pr, rx, rfl, hpr, gr⟩ := id a7.tupE
    have e10 := G.e10
    have a10 := G.a10
    walk_at "zz"
    refine z_gTup (SqT.of hp) rfl ?_
    walk_at "zz"
    refine z_make ?_
    walk_at "zz"
    refine z_new (by simp) (fun ll H3 n3 e3 h3 => ?_)
    walk_at "zz"
    intro x dx nx ndx nxd
    have ll_x : ll ≠ x := ne_of_none h3 nx
    have ll_d : ll ≠ dx := ne_of_none h3 ndx
    have s4 : Same H3 (upd (upd H3 dx (.own x)) x (.ins C dx [])) := fun b o hb => by
      rw [upd_ne (ne_of_none hb nx), upd_ne (ne_of_none hb ndx)]
      exact hb
    refine ⟨x, dx, pn, ll, z, ns, rfl, upd_same, s4 _ _ (e3 _ _ hpn), s4 _ _ h3, fun er0 ac0 he0 H5 keep5 hx5 => ⟨rfl, ?_⟩⟩
    have x2 : H2 x = none := by
      cases e : H2 x with
      | none => rfl
      | some o => rw [e3 _ _ e] at nx; cases nx
    have s5 : Same H2 H5 := fun b o hb => keep5 b o (ne_of_none hb x2) (s4 _ _ (e3 _ _ hb))
    walk_at "zz"
    refine z_sfld ?_
    walk_at "zz"
    refine ⟨x, C, dx, _, rfl, hx5, T.cl, T.n3, by simp [hf], ?_⟩
    have hx6 : upd H5 x (.ins C dx (putF "life" (.int l) (hf (.str z) (.ref pn) (.int 1) (.int 1) (.ref er0) (.ref ac0) (.ref he0)))) x = some (.ins C dx (hf (.str z) (.ref pn) (.int l) (.int 1) (.ref er0) (.ref ac0) (.ref he0))) := by rw [upd_same]; rfl
    have s6 : Same H2 (upd H5 x (.ins C dx (putF "life" (.int l) (hf (.str z) (.ref pn) (.int 1) (.int 1) (.ref er0) (.ref ac0) (.ref he0))))) := fun b o hb => by rw [upd_ne (ne_of_none hb x2)]; exact s5 _ _ hb
    generalize upd H5 x (.ins C dx (putF "life" (.int l) (hf (.str z) (.ref pn) (.int 1) (.int 1) (.ref er0) (.ref ac0) (.ref he0)))) = H6 at hx6 s6 ⊢
    walk_at "zz"
    refine z_sfld ?_
    walk_at "zz"
    refine ⟨x, C, dx, _, rfl, hx6, T.cl, T.n4, by simp [hf], ?_⟩
    have hx7 : upd H6 x (.ins C dx (putF "version" (.int ve) (hf (.str z) (.ref pn) (.int l) (.int 1) (.ref er0) (.ref ac0) (.ref he0)))) x = some (.ins C dx (hf (.str z) (.ref pn) (.int l) (.int ve) (.ref er0) (.ref ac0) (.ref he0))) := by rw [upd_same]; rfl
    have s7 : Same H2 (upd H6 x (.ins C dx (putF "version" (.int ve) (hf (.str z) (.ref pn) (.int l) (.int 1) (.ref er0) (.ref ac0) (.ref he0))))) := fun b o hb => by rw [upd_ne (ne_of_none hb x2)]; exact s6 _ _ hb
    generalize upd H6 x (.ins C dx (putF "version" (.int ve) (hf (.str z) (.ref pn) (.int l) (.int 1) (.ref er0) (.ref ac0) (.ref he0)))) = H7 at hx7 s7 ⊢
    walk_at "zz"
    refine z_sfld ?_
    walk_at "zz"
    refine ⟨_, rfl, pe, rfl, ⟨_, SqT.of (s7 _ _ hpe)⟩, fun E1 nE1 => dc_tup (xs := ex) (fun i H' => Same H7 H' ∧ ∃ kvs, H' E1 = some (.dK kvs) ∧ DcAll H7 fE kvs (es.take i)) ⟨same_upd nE1, [], upd_same, .nil⟩ (fun i H' _ h => SqT.of (h.1 _ _ (s7 _ _ hpe))) ?_ ?_⟩
    · rintro i y H8 hy ⟨e8, kvs, hD, gd⟩
      obtain ⟨dy, hdy, by_⟩ := (DaAll.mv (KD.of_same (s7.trans e8)) ge).get hy
      have out := name_out G.eR.up hdy
      obtain ⟨zy, c, rfl, _⟩ := era_shape (G.era dy (List.mem_of_getElem? hdy))
      obtain ⟨py, yx, rfl, hpy, gy⟩ := by_.tupE
      rcases gy with _ | ⟨b1, gy⟩
      rcases gy with _ | ⟨b2, gy⟩
      cases gy
      obtain ⟨rfl, _, _⟩ := b1.strE
      cases b2.intE
      refine z_gTup (SqT.of hpy) rfl ?_
      walk_at "zz"
      refine ⟨rfl, ?_⟩
      walk_at "zz"
      have lk := gd.len
      rw [List.length_take] at lk
      refine ⟨kvs, .inr zy, rfl, hD, small1000 (by omega), fun b o hb => by rw [upd_ne (ne_of_none hb nE1)]; exact e8 _ _ hb, _, upd_same, ?_⟩
      have out : zy ∉ nmsD (es.take i) := out
      rw [putK_new _ (gd.none out), List.take_add_one, hdy]
      exact gd.snoc (r := [.int c]) (.int c)
    rintro H8 ⟨e8, kE, hE, gE⟩
    rw [List.take_of_length_le (by rw [ge.len]; exact Nat.le_refl _)] at gE
    have hx8 := e8 _ _ hx7
    have E1x : E1 ≠ x := fun e => by rw [e, hx7] at nE1; cases nE1
    have s8 := s7.trans e8
    walk_at "zz"
    refine ⟨x, C, dx, _, rfl, hx8, T.cl, T.n5, by simp [hf], ?_⟩
    have hx9 : upd H8 x (.ins C dx (putF "eras" (.ref E1) (hf (.str z) (.ref pn) (.int l) (.int ve) (.ref er0) (.ref ac0) (.ref he0)))) x = some (.ins C dx (hf (.str z) (.ref pn) (.int l) (.int ve) (.ref E1) (.ref ac0) (.ref he0))) := by rw [upd_same]; rfl
    have s9 : ∀ b o, b ≠ x → H8 b = some o → upd H8 x (.ins C dx (putF "eras" (.ref E1) (hf (.str z) (.ref pn) (.int l) (.int ve) (.ref er0) (.ref ac0) (.ref he0)))) b = some o := fun b o nb hb => by rw [upd_ne nb]; exact hb
    generalize upd H8 x (.ins C dx (putF "eras" (.ref E1) (hf (.str z) (.ref pn) (.int l) (.int ve) (.ref er0) (.ref ac0) (.ref he0)))) = H9 at hx9 s9 ⊢
    have t9 : Same H2 H9 := fun b o hb => s9 b o (ne_of_none hb x2) (s8 _ _ hb)
    have hE9 := s9 _ _ E1x hE
    have gE9 : DcAll H9 fE kE es := by
      refine gE.mv ⟨fun b xs hb => s9 _ _ (ne_of hb hx7 (by intro z; cases z)) (e8 _ _ hb), fun b xs hb => s9 _ _ (ne_of hb hx7 (by intro z; cases z)) (e8 _ _ hb)⟩
    walk_at "zz"
    refine z_sfld ?_
    walk_at "zz"
    refine ⟨_, rfl, pc, rfl, ⟨_, SqT.of (t9 _ _ hpc)⟩, fun E2 nE2 => dc_tup (xs := cx) (fun i H' => Same H9 H' ∧ ∃ kvs, H' E2 = some (.dK kvs) ∧ DcAll H' fA kvs (as.take i)) ⟨same_upd nE2, [], upd_same, .nil⟩ (fun i H' _ h => SqT.of (h.1 _ _ (t9 _ _ hpc))) ?_ ?_⟩
    · rintro i y Ha hy ⟨ea, kvs, hD, gd⟩
      obtain ⟨dy, hdy, by_⟩ := (DaAll.mv (KD.of_same (t9.trans ea)) gc).get hy
      have out := name_out G.aR.up hdy
      obtain ⟨zy, rr, rfl, _⟩ := G.aR.hd dy (List.mem_of_getElem? hdy)
      refine ⟨rfl, ?_⟩
      walk_at "zz"
      refine d_ix (i := 0) by_ rfl (fun wb bb => ?_)
      obtain ⟨rfl, _, _⟩ := bb.strE
      walk_at "zz"
      refine d_sl by_ (fun pd Hd ed bd => ?_)
      rw [show (1 : Int) = ((1 : Nat) : Int) from rfl, cutL_frm] at bd
      have lk := gd.len
      rw [List.length_take] at lk
      have hDd := ed _ _ hD
      refine ⟨kvs, .inr zy, rfl, hDd, small1000 (by omega), fun b o hb => by rw [upd_ne (ne_of_none hb nE2)]; exact ed _ _ (ea _ _ hb), _, upd_same, ?_⟩
      have out : zy ∉ nmsD (as.take i) := out
      rw [putK_new _ (gd.none out), List.take_add_one, hdy]
      exact DcAll.snoc (r := rr) (bd.mv (KD.updD hDd)) ((gd.mv (KD.of_same ed)).mv (KD.updD hDd))
    rintro Ha ⟨ea, kA, hA, gA⟩
    rw [List.take_of_length_le (by rw [gc.len]; exact Nat.le_refl _)] at gA
    have hxa := ea _ _ hx9
    have E2x : E2 ≠ x := fun e => by rw [e, hx9] at nE2; cases nE2
    walk_at "zz"
    refine ⟨x, C, dx, _, rfl, hxa, T.cl, T.n6, by simp [hf], ?_⟩
    have hxb : upd Ha x (.ins C dx (putF "accounts" (.ref E2) (hf (.str z) (.ref pn) (.int l) (.int ve) (.ref E1) (.ref ac0) (.ref he0)))) x = some (.ins C dx (hf (.str z) (.ref pn) (.int l) (.int ve) (.ref E1) (.ref E2) (.ref he0))) := by rw [upd_same]; rfl
    have sb : ∀ b o, b ≠ x → Ha b = some o → upd Ha x (.ins C dx (putF "accounts" (.ref E2) (hf (.str z) (.ref pn) (.int l) (.int ve) (.ref E1) (.ref ac0) (.ref he0)))) b = some o := fun b o nb hb => by rw [upd_ne nb]; exact hb
    generalize upd Ha x (.ins C dx (putF "accounts" (.ref E2) (hf (.str z) (.ref pn) (.int l) (.int ve) (.ref E1) (.ref ac0) (.ref he0)))) = Hb at hxb sb ⊢
    have kab : KD Ha Hb := ⟨fun b xs hb => sb _ _ (ne_of hb hxa (by intro z; cases z)) hb, fun b xs hb => sb _ _ (ne_of hb hxa (by intro z; cases z)) hb⟩
    walk_at "zz"
    refine z_sfld ?_
    walk_at "zz"
    refine ⟨x, C, dx, _, rfl, hxb, T.cl, T.n7, by simp [hf], ?_⟩
    have hxc : upd Hb x (.ins C dx (putF "heard" (.ref pr) (hf (.str z) (.ref pn) (.int l) (.int ve) (.ref E1) (.ref E2) (.ref he0)))) x = some (.ins C dx (hf (.str z) (.ref pn) (.int l) (.int ve) (.ref E1) (.ref E2) (.ref pr))) := by rw [upd_same]; rfl
    have sc : ∀ b o, b ≠ x → Hb b = some o → upd Hb x (.ins C dx (putF "heard" (.ref pr) (hf (.str z) (.ref pn) (.int l) (.int ve) (.ref E1) (.ref E2) (.ref he0)))) b = some o := fun b o nb hb => by rw [upd_ne nb]; exact hb
    generalize upd Hb x (.ins C dx (putF "heard" (.ref pr) (hf (.str z) (.ref pn) (.int l) (.int ve) (.ref E1) (.ref E2) (.ref he0)))) = Hc at hxc sc ⊢
    have kbc : KD Hb Hc := ⟨fun b xs hb => sc _ _ (ne_of hb hxb (by intro z; cases z)) hb, fun b xs hb => sc _ _ (ne_of hb hxb (by intro z; cases z)) hb⟩
    have kac := kab.trans kbc
    have tc : Same H2 Hc := fun b o hb => sc b o (ne_of_none hb x2) (sb b o (ne_of_none hb x2) (ea _ _ (t9 _ _ hb)))
    walk_at "zz"
    have ktc := KD.of_same tc
    refine q x Hc (c2.trans (Kc.of_same c2.tg tc)) ⟨dx, .ref pn, E1, E2, .ref pr, kE, kA, hxc, a4.mv ktc, a7.mv ktc, sc _ _ E1x (sb _ _ E1x (ea _ _ hE9)), (gE9.mv (KD.of_same ea)).mv kac, sc _ _ E2x (sb _ _ E2x hA), gA.mv kac⟩
def spNumD : Sp := fun vs H Q _ => ∃ d : Addr, vs = [.ref d] ∧ SrcD H d ∧ ∀ (n : Int) H', inFar n = true → Dd d H H' → Q (.int n) H'
theorem ok__law_number {f : Addr} {fd : FuncData} (F : FnP K "_law_number" s__law_number f fd) (h__law_draw : Has P w K mg base 2 "_law_draw" ["_law_draw_here", "_law_many"] spDrawD) (h__law_one : Has P w K mg base 3 "_law_one" ["_law_draw_here", "_law_some"] spOneD) : FnOk P w K mg base CX0 4 f fd ["_law_draw_here"] spNumD := by
  refine F.ok sc__law_number (fun vs H Q E h => ?_) (fun cdv A outer s H vs Q E hr h => ?_)
  · obtain ⟨d, rfl, _⟩ := h; rfl
  obtain ⟨d, rfl, hd, q⟩ := h
  refine ⟨_, PSs.nox (pss_cons (ps_set (i := 1) sc__law_number.nd rfl (.inl rfl) (pe_callH h__law_draw (hr.mono (by decide)) (by rfl) (pa_cons (pv 0) (pa_cons pe_int pa_nil))))
  (pss_cons (ps_if (pt_cmpR op_eq (pv 1) pe_int (nomark _))
    (pss_one (ps_ret (pe_callH h__law_one (hr.mono (by decide)) (by rfl) (pa_cons (pv 0) (pa_cons (pe_lst (pa_cons pe_int (pa_cons pe_int (pa_cons (pe_un un_neg pe_int) (pa_cons (pe_op op_pow pe_int pe_int) (pa_cons (pe_un un_neg (pe_op op_pow pe_int pe_int)) pa_nil)))))) pa_nil)))))
    pss_nil)
  (pss_cons (ps_set (i := 2) sc__law_number.nd rfl (.inl rfl) (pe_ix (ix_listE K) (pe_lst (pa_cons pe_int (pa_cons pe_int (pa_cons (pe_op op_mulA pe_int (pe_op op_pow pe_int pe_int)) pa_nil)))) (pe_op op_sub (pv 1) pe_int) (fun _ _ => rfl)))
  (pss_one (ps_ret (pe_op op_sub (pe_callH h__law_draw (hr.mono (by decide)) (by rfl) (pa_cons (pv 0) (pa_cons (pv 2) pa_nil))) (pe_op op_mulA (pe_callH h__law_draw (hr.mono (by decide)) (by rfl) (pa_cons (pv 0) (pa_cons pe_int pa_nil))) (pe_op op_fdivA (pv 2) pe_int)))))))), ?_⟩
  walk_at "zz"
  refine ⟨d, _, rfl, by decide, hd, fun r1 H1 r10 r11 d1 => ?_⟩
  walk_at "zz"
  refine z_ite (fun h0 => ?_) (fun h0 => ?_)
  · walk_at "zz"
    refine z_new (by simp) (fun l2 H2 n2 e2 h2 => ?_)
    walk_at "zz"
    refine ⟨d, l2, _, rfl, d1.src.same e2, h2, by simp, by simp, fun i v H3 hv d3 => ?_⟩
    have D3 := d1.trans ((Dd.of_same d1.src e2).trans d3)
    have : ∃ n : Int, v = .int n ∧ inFar n = true := by
      have hm := List.mem_of_getElem? hv
      simp only [List.mem_cons, List.not_mem_nil, or_false] at hm
      rcases hm with rfl | rfl | rfl | rfl | rfl <;> exact ⟨_, rfl, by decide +kernel⟩
    obtain ⟨n, rfl, far⟩ := this
    exact q n H3 far D3
  · walk_at "zz"
    refine z_mulA (mulL (by decide)) ?_
    walk_at "zz"
    refine z_new (by simp) (fun l2 H2 n2 e2 h2 => ?_)
    walk_at "zz"
    obtain ⟨t, ht, t0, t1⟩ : ∃ t : Int, atI [V.int 20, V.int 1000, V.int (2 * 10 ^ Int.toNat 9)] (r1 - 1) = some (.int t) ∧ 0 < t ∧ t ≤ 2000000000 := by
      rcases (show r1 = 1 ∨ r1 = 2 ∨ r1 = 3 by omega) with rfl | rfl | rfl
      · exact ⟨20, rfl, by decide, by decide⟩
      · exact ⟨1000, rfl, by decide, by decide⟩
      · exact ⟨2 * 10 ^ Int.toNat 9, rfl, by decide, by decide⟩
    refine z_ixL (SqL.of h2) ht ?_
    walk_at "zz"
    refine ⟨d, _, rfl, t0, d1.src.same e2, fun r3 H3 r30 r31 d3 => ?_⟩
    walk_at "zz"
    refine ⟨d, _, rfl, by decide, d3.src, fun r4 H4 r40 r41 d4 => ?_⟩
    walk_at "zz"
    refine z_fdivA ⟨by decide, by decide +kernel⟩ ?_
    walk_at "zz"
    refine z_mulA (mulL ⟨by omega, by omega⟩) ?_
    walk_at "zz"
    refine q _ _ ?_ (d1.trans ((Dd.of_same d1.src e2).trans (d3.trans d4)))
    rw [Int.fdiv_eq_ediv_of_nonneg _ (by decide)]
    unfold inFar
    rcases (show r4 = 0 ∨ r4 = 1 by omega) with rfl | rfl
    · rw [decide_eq_true (show (-1000000000000 : Int) ≤ r3 - 0 * (t / 2) by omega), decide_eq_true (show r3 - 0 * (t / 2) ≤ (1000000000000 : Int) by omega)]
      rfl
    · rw [decide_eq_true (show (-1000000000000 : Int) ≤ r3 - 1 * (t / 2) by omega), decide_eq_true (show r3 - 1 * (t / 2) ≤ (1000000000000 : Int) by omega)]
      rfl
def spLPart : Sp := fun vs H Q _ => ∃ (n : Int) (e : Nat), vs = [.int n, .int (e : Int)] ∧ ∀ r H', H r = none → Same H H' → H' r = some (.tup [.int (partF e n).1, .int ((partF e n).2 : Int)]) → Q (.ref r) H'
theorem ok__law_part {f : Addr} {fd : FuncData} (F : FnP K "_law_part" s__law_part f fd) : FnOk P w K mg base CX0 1 f fd ["_law_num", "_law_e"] spLPart := by
  refine F.ok sc__law_part (fun vs H Q E h => ?_) (fun cdv A outer s H vs Q E hr h => ?_)
  · obtain ⟨n, e, rfl, _⟩ := h; rfl
  obtain ⟨n, e, rfl, k⟩ := h
  refine ⟨_, PSs.nox (pss_cons (ps_while PassesOwn.never (PW.pt (pw_and (pt_cmpR op_gt (pv 1) pe_int (nomark _)) (pw_and1 (pt_cmpR op_eq (pe_op op_modN (pv 0) pe_int) pe_int (nomark _)))))
    (pss_cons (ps_set (i := 0) sc__law_part.nd rfl (.inl rfl) (pe_op op_fdivA (pv 0) pe_int))
  (pss_one (ps_set (i := 1) sc__law_part.nd rfl (.inl rfl) (pe_op op_sub (pv 1) pe_int)))))
  (pss_one (ps_ret (pe_tup (pa_cons (pv 0) (pa_cons (pv 1) pa_nil)))))), ?_⟩
  walk_at "zz"
  refine ⟨fun m σ H' => ∃ (x : Int) (d : Nat), σ = [some (.int x), some (.int (d : Int))] ∧ H = H' ∧ d = m ∧ partF d x = partF e n, ⟨e, n, e, rfl, rfl, rfl, rfl⟩, ?_⟩
  rintro m σ H' ⟨x, d, rfl, rfl, rfl, hd⟩
  have done : d = 0 ∨ x % 2 = 1 → NewO HO.tup [V.int x, V.int (d : Int)] H Q := by
    intro h
    rw [partF_id h] at hd
    rw [← hd] at k
    exact z_new (by simp) k
  walk_at "zz"
  refine z_ite (fun h => ?_) (fun h => ?_)
  case refine_2 =>
    walk_at "zz"
    exact done (.inl (by omega))
  walk_at "zz"
  rw [Int.fmod_eq_emod_of_nonneg _ (by decide)]
  refine z_ite (fun h' => ?_) (fun h' => ?_)
  case refine_2 =>
    walk_at "zz"
    exact done (.inr (by omega))
  walk_at "zz"
  refine ⟨_, fun _ _ h => h, ?_⟩
  walk_at "zz"
  refine z_fdivA ⟨by decide, by decide +kernel⟩ ?_
  walk_at "zz"
  rw [Int.fdiv_eq_ediv_of_nonneg _ (by decide)]
  obtain ⟨c, rfl⟩ : ∃ c, d = c + 1 := ⟨d - 1, by omega⟩
  refine ⟨c, by omega, x / 2, c, ?_, rfl, rfl, ?_⟩
  · rw [show (((c + 1 : Nat) : Int) - 1) = (c : Int) by omega]
    rfl
  · rw [← hd]
    show _ = (if x % 2 = 0 then partF c (x / 2) else (x, c + 1))
    rw [if_pos h']
theorem pt_part : ∀ (e : Nat) (n : Int), ptB (partF e n).1 ((partF e n).2 : Int) = true
  | 0, n => rfl
  | e + 1, n => by
    unfold partF
    by_cases h : n % 2 = 0
    · rw [if_pos h]
      exact pt_part e (n / 2)
    · rw [if_neg h]
      unfold ptB
      rw [decide_eq_true (show (0 : Int) < ((e + 1 : Nat) : Int) by omega), decide_eq_true (show n % 2 = 1 by omega)]
      simp
theorem Dd.updN {d D : Addr} {H H' : Hp} {o : HO} (x : Dd d H H') (n : H D = none) : Dd d H (upd H' D o) := by
  refine ⟨fun b u nb hb => by rw [upd_ne (ne_of_none hb n)]; exact x.keep b u nb hb, ?_, x.src0⟩
  obtain ⟨c, k, h⟩ := x.src
  exact ⟨c, k, by rw [upd_ne (x.src0.ne n).symm]; exact h⟩
theorem part_noL {x : PyData} (h : partD x = true) : noL x = true := by
  unfold partD at h
  split at h
  · rfl
  · cases h
def spLRow : Sp := fun vs H Q _ => ∃ (d : Addr) (n : Nat), vs = [.ref d, .int (n : Int)] ∧ SrcD H d ∧ n ≤ 3 ∧ ∀ (p : Addr) (e : PyData) (H' : Hp), Da H' (.ref p) e → rowD (n + 1) e = true → Dd d H H' → Q (.ref p) H'
theorem ok__law_row {f : Addr} {fd : FuncData} (F : FnP K "_law_row" s__law_row f fd) (m_range : mg "range" = none) (m_tuple : mg "tuple" = none) (h__law_one : Has P w K mg base 3 "_law_one" ["_law_draw_here", "_law_some"] spOneD) (h__law_number : Has P w K mg base 4 "_law_number" ["_law_draw_here"] spNumD) (h__law_part : Has P w K mg base 1 "_law_part" ["_law_num", "_law_e"] spLPart) : FnOk P w K mg base CX0 5 f fd ["_law_draw_here", "_law_many"] spLRow := by
  refine F.ok sc__law_row (fun vs H Q E h => ?_) (fun cdv A outer s0 H vs Q E hr h => ?_)
  · obtain ⟨d, n, rfl, _⟩ := h; rfl
  obtain ⟨d, n, rfl, hs, n3, q⟩ := h
  refine ⟨_, PSs.nox (pss_one (ps_ret (pe_callTy (call_tupleE K) (by rfl) m_tuple (by decide +kernel) (pa_cons (pe_lc (own := [("_law_k", 2)]) (g := (gName 2)) (by rfl) sc__law_row.nd (pi_range1 (by rfl) m_range (pa_cons (pe_op op_add (pv 1) pe_int) pa_nil)) (blkOk_by (own := [("_law_k", 2)]) (N := ["_law_draw_here", "_law_many", "_law_k"]) (sc := defScope s__law_row) (by decide +kernel)) (fun _ _ _ _ _ => (pg_name (i := 2) sc__law_row.nd rfl (.inl rfl))) (fun _ _ _ _ _ => pts_nil) (fun _ _ _ _ _ => (pe_callH h__law_part (hr.mono (by decide)) (by rfl) (pa_cons (pe_callH h__law_number (hr.mono (by decide)) (by rfl) (pa_cons (pv 0) pa_nil)) (pa_cons (pe_callH h__law_one (hr.mono (by decide)) (by rfl) (pa_cons (pv 0) (pa_cons (pe_lst (pa_cons pe_int (pa_cons pe_int (pa_cons pe_int (pa_cons pe_int (pa_cons pe_int (pa_cons pe_int pa_nil))))))) pa_nil))) pa_nil))))) pa_nil)))), ?_⟩
  walk_at "zz"
  show iRng1 _ _ _ _
  walk_at "zz"
  refine ⟨_, rfl, by omega, by omega, fun D nD => ?_⟩
  rw [show ((n : Int) + 1).toNat = n + 1 by omega]
  have Dd0 : D ≠ d := hs.ne nD
  refine lc_range (lo := 0) (n := n + 1) (fun i H' => Dd d H H' ∧ ∃ acc ps, H' D = some (.lst acc) ∧ DaAll H' acc ps ∧ ps.length = i ∧ ∀ x ∈ ps, partD x = true) ⟨(Dd.of_same hs Same.rfl_).updN nD, [], [], upd_same, .nil, rfl, fun x hx => by simp at hx⟩ ?_ ?_
  · rintro i H1 hi ⟨d1, acc, ps, hD, ga, lp, pp⟩
    refine ⟨rfl, ?_⟩
    walk_at "zz"
    refine ⟨d, rfl, d1.src, fun m H2 _ d2 => ?_⟩
    walk_at "zz"
    refine d_menu (R := fun x => ∃ e : Nat, x = .int (e : Int)) (.cons (.int 0) ⟨0, rfl⟩ (.cons (.int 1) ⟨1, rfl⟩ (.cons (.int 2) ⟨2, rfl⟩ (.cons (.int 9) ⟨9, rfl⟩ (.cons (.int 60) ⟨60, rfl⟩ (.cons (.int 900) ⟨900, rfl⟩ .nil)))))) (by simp) (fun p3 H3 e3 h3 a3 => ?_)
    walk_at "zz"
    refine d_one (d2.src.same e3) h3 a3 (by simp) (by simp) (fun v x H4 ax rx d4 => ?_)
    obtain ⟨e, rfl⟩ := rx
    cases ax.intE
    walk_at "zz"
    refine ⟨m, e, rfl, fun r H5 nr e5 h5 => ?_⟩
    have D5 := d1.trans (d2.trans ((Dd.of_same d2.src e3).trans (d4.trans (Dd.of_same d4.src e5))))
    have k5 := (KD.of_dd d2).trans ((KD.of_same e3).trans ((KD.of_dd d4).trans (KD.of_same e5)))
    have hD5 := k5.l _ _ hD
    have la := ga.len
    refine ⟨acc, hD5, small1000 (by omega), D5.updN nD, _, ps ++ [_], upd_same, DaAll.app (DaAll.mvT (KT.updL hD5) (DaAll.mv k5 ga) (noLs_iff.mpr fun x hx => part_noL (pp x hx))) (.cons (Da.mvT (KT.updL hD5) (.tup h5 (.cons (.int _) (.cons (.int _) .nil))) rfl) .nil), by rw [List.length_append, lp]; rfl, fun x hx => ?_⟩
    rcases List.mem_append.mp hx with hx | hx
    · exact pp x hx
    · rw [List.mem_singleton.mp hx]
      exact pt_part e m
  · rintro H1 ⟨d1, acc, ps, hD, ga, lp, pp⟩
    walk_at "zz"
    refine z_tupleL hD (fun p2 H2 n2 e2 h2 => ?_)
    refine q p2 (.tuple ps) H2 (.tup h2 (DaAll.mv (KD.of_same e2) ga)) ?_ (d1.trans (Dd.of_same d1.src e2))
    unfold rowD
    rw [show tupD (n + 1) (.tuple ps) = true from decide_eq_true lp, show itD (.tuple ps) = ps from rfl, List.all_eq_true.mpr pp]
    rfl
def zzS (c : Nat) : Str := "zz" ++ (⟨#[c]⟩ : Str)
theorem zz_inj {c d : Nat} (h : zzS c = zzS d) : c = d := by
  have e : ∀ x : Nat, (zzS x).cps.toList = [122, 122, x] := fun x => rfl
  have h2 : (zzS c).cps.toList = (zzS d).cps.toList := by rw [h]
  rw [e, e] at h2
  simpa using h2
theorem zz_nm {c : Nat} (h : smB c = true) : nmB (zzS c) = true := by
  have e : (zzS c).cps.toList = [122, 122, c] := rfl
  refine nm_of (by show 1 ≤ 3; decide) (by show 3 ≤ 8; decide) ?_
  rw [e]
  show (smB 122 && (smB 122 && (smB c && true))) = true
  rw [h]
  decide +kernel
theorem ah_at : ∀ i, i < 8 → ("abcdefgh" : Str).cps[i]? = some (97 + i) := by decide +kernel
theorem nodup_sub : ∀ (l D : List Str), l.Nodup → (∀ x ∈ l, x ∈ D) → l.length ≤ D.length
  | [], _, _, _ => Nat.zero_le _
  | x :: l, D, hn, hs => by
    obtain ⟨h1, h2⟩ := List.nodup_cons.mp hn
    have hx : x ∈ D := hs x List.mem_cons_self
    have ih := nodup_sub l (D.erase x) h2 fun y hy => by
      have hne : y ≠ x := fun e => h1 (e ▸ hy)
      exact (List.mem_erase_of_ne hne).2 (hs y (List.mem_cons_of_mem _ hy))
    have e := List.length_erase_of_mem hx
    have hp : 0 < D.length := List.length_pos_of_mem hx
    rw [List.length_cons]
    omega
theorem zz_eight {l : List Str} (h : ∀ j, j < 8 → zzS (97 + j) ∈ l) : 8 ≤ l.length := by
  have := nodup_sub ((List.range 8).map fun j => zzS (97 + j)) l (List.pairwise_map.mpr (List.Pairwise.imp (fun {a b} (hab : a < b) (e : zzS (97 + a) = zzS (97 + b)) => by have := zz_inj e; omega) List.pairwise_lt_range)) (fun x hx => by
    obtain ⟨j, hj, rfl⟩ := List.mem_map.mp hx
    exact h j (List.mem_range.mp hj))
  simpa using this
def spNamesD : Sp := fun vs H Q _ => ∃ (d : Addr) (n : Nat), vs = [.ref d, .int (n : Int)] ∧ n ≤ 8 ∧ SrcD H d ∧ ∀ (l : Addr) (zs : List Str) (H' : Hp), H l = none → H' l = some (.lst (zs.map V.str)) → zs.Nodup → (∀ z ∈ zs, nmB z = true) → zs.length = n → Dd d H H' → Q (.ref l) H'
theorem ok__law_names {f : Addr} {fd : FuncData} (F : FnP K "_law_names" s__law_names f fd) (m_range : mg "range" = none) (h__law_name : Has P w K mg base 3 "_law_name" ["_law_draw_here"] spNameD) : FnOk P w K mg base CX0 4 f fd ["_law_draw_here", "_law_many"] spNamesD := by
  refine F.ok sc__law_names (fun vs H Q E h => ?_) (fun cdv A outer s H vs Q E hr h => ?_)
  · obtain ⟨d, n, rfl, _⟩ := h; rfl
  obtain ⟨d, n, rfl, hn, hd, q⟩ := h
  refine ⟨_, PSs.nox (pss_cons (ps_set (i := 2) sc__law_names.nd rfl (.inr rfl) (pe_lst pa_nil))
  (pss_cons (ps_for PassesOwn.never rfl (pi_range1 (by rfl) m_range (pa_cons (pe_op op_mulA pe_int (pv 1)) pa_nil)) (pg_name (i := 3) sc__law_names.nd rfl (.inl rfl))
    (pss_cons (ps_set (i := 4) sc__law_names.nd rfl (.inl rfl) (pe_callH h__law_name (hr.mono (by decide)) (by rfl) (pa_cons (pv 0) pa_nil)))
  (pss_one (ps_if (pt_cmpR (op_notInE K) (pv 4) (pv 2) (by rfl))
    (pss_one (ps_expr (pe_bm PySem.F.plainAttrs_list PySem.F.slot_list_append PySem.F.type_list_append mt_append (pv 2) (pa_cons (pv 4) pa_nil))))
    pss_nil))))
  (pss_one (ps_ret (pe_slice (sl_listE K) (pe_op op_cat (pv 2) (pe_lc (own := [("_law_letter", 5)]) (g := (gName 5)) (by rfl) sc__law_names.nd (pi_str pe_str) (blkOk_by (own := [("_law_letter", 5)]) (N := ["_law_draw_here", "_law_many", "_law_found", "_law_k", "_law_name_here", "_law_letter"]) (sc := defScope s__law_names) (by decide +kernel)) (fun _ _ _ _ _ => (pg_name (i := 5) sc__law_names.nd rfl (.inl rfl))) (fun _ _ _ _ _ => (pts_one (pt_cmpR (op_notInE K) (pe_op op_add_str pe_str (pv 5)) (pv 2) (by rfl)))) (fun _ _ _ _ _ => (pe_op op_add_str pe_str (pv 5))))) po_none (po_some (pv 1))))))), ?_⟩
  walk_at "zz"
  refine z_new (by simp) (fun l1 H1 n1 e1 h1 => ?_)
  have l1d : l1 ≠ d := hd.ne n1
  walk_at "zz"
  refine z_mulA (mulL (by decide)) ?_
  walk_at "zz"
  refine ⟨_, rfl, by omega, by omega, ?_⟩
  rw [show ((4 : Int) * (n : Int)).toNat = 4 * n by omega]
  refine for_range (lo := 0) (n := 4 * n) (fun i σ H' => (∃ y3 y4 y5, σ = [some (.ref d), some (.int (n : Int)), some (.ref l1), y3, y4, y5]) ∧ (∀ b o, b ≠ d → b ≠ l1 → H b = some o → H' b = some o) ∧ SrcD H' d ∧ ∃ zs : List Str, H' l1 = some (.lst (zs.map V.str)) ∧ zs.Nodup ∧ (∀ z ∈ zs, nmB z = true) ∧ zs.length ≤ i) ⟨⟨_, _, _, rfl⟩, fun b o _ _ hb => e1 _ _ hb, hd.same e1, [], h1, List.nodup_nil, fun z hz => absurd hz (by simp), Nat.zero_le _⟩ ?_ ?_
  · rintro i σ H2 hi ⟨⟨y3, y4, y5, rfl⟩, k2, r2, zs, h2, nd, nm, lz⟩
    walk_at "zz"
    refine ⟨d, rfl, r2, fun z H3 hz d3 => ?_⟩
    have h3 := d3.keep _ _ l1d h2
    have k3 : ∀ b o, b ≠ d → b ≠ l1 → H b = some o → H3 b = some o := fun b o nb nl hb => d3.keep _ _ nb (k2 b o nb nl hb)
    walk_at "zz"
    refine z_notInS h3 ?_
    walk_at "zz"
    refine z_nite (fun h => ?_) (fun h => ?_)
    · walk_at "zz"
      refine ⟨.inl ⟨rfl, _, SqL.of h3⟩, ?_⟩
      walk_at "zz"
      refine ⟨l1, _, _, rfl, rfl, h3, small1000 (by rw [List.length_map]; omega), ⟨_, _, _, rfl⟩, fun b o nb nl hb => by rw [upd_ne nl]; exact k3 b o nb nl hb, ?_, zs ++ [z], by rw [upd_same, List.map_append]; rfl, nodup_snoc nd h, fun x hx => ?_, by rw [List.length_append]; simp only [List.length_cons, List.length_nil]; omega⟩
      · obtain ⟨c, k, hk⟩ := d3.src
        exact ⟨c, k, by rw [upd_ne l1d.symm]; exact hk⟩
      · rcases List.mem_append.mp hx with hx | hx
        · exact nm x hx
        · rw [List.mem_singleton.mp hx]; exact hz
    · walk_at "zz"
      exact ⟨⟨_, _, _, rfl⟩, k3, d3.src, zs, h3, nd, nm, by omega⟩
  · rintro σ H2 ⟨⟨y3, y4, y5, rfl⟩, k2, r2, zs, h2, nd, nm, lz⟩
    walk_at "zz"
    refine ⟨_, rfl, fun D nD => lc_str (z := "abcdefgh") (fun i H' => Same H2 H' ∧ ∃ ws : List Str, H' D = some (.lst (ws.map V.str)) ∧ ws.length ≤ i ∧ ws.Nodup ∧ (∀ x ∈ ws, x ∉ zs ∧ nmB x = true ∧ ∃ j, j < i ∧ x = zzS (97 + j)) ∧ ∀ j, j < i → zzS (97 + j) ∈ zs ++ ws) ⟨same_upd nD, [], upd_same, Nat.zero_le _, List.nodup_nil, fun x hx => absurd hx (by simp), fun j hj => absurd hj (by omega)⟩ ?_ ?_⟩
    · rintro i c H3 hc ⟨e3, ws, hD, lw, ndw, pw, aw⟩
      have i8 : i < 8 := by
        obtain ⟨hi, _⟩ := Array.getElem?_eq_some_iff.mp hc
        exact hi
      have ec : c = 97 + i := by
        rw [ah_at i i8] at hc
        exact (Option.some.inj hc).symm
      subst ec
      refine ⟨rfl, ?_⟩
      walk_at "zz"
      have l1 : (⟨#[97 + i]⟩ : Str).length = 1 := rfl
      refine ⟨_, _, rfl, rfl, Nat.le_of_lt (small1000 (by show 2 + 1 ≤ 1000; decide)), ?_⟩
      walk_at "zz"
      refine z_notInS (z := zzS (97 + i)) (e3 _ _ h2) ?_
      walk_at "zz"
      refine z_nite (fun h => ?_) (fun h => ?_)
      · walk_at "zz"
        refine ⟨_, _, rfl, rfl, Nat.le_of_lt (small1000 (by show 2 + 1 ≤ 1000; decide)), ?_⟩
        have fresh : zzS (97 + i) ∉ ws := fun hx => by
          obtain ⟨_, _, j, hj, ej⟩ := pw _ hx
          have := zz_inj ej
          omega
        refine ⟨_, hD, small1000 (by rw [List.length_map]; omega), fun b o hb => by rw [upd_ne (ne_of_none hb nD)]; exact e3 _ _ hb, ws ++ [zzS (97 + i)], by rw [upd_same, List.map_append]; rfl, by rw [List.length_append]; simp only [List.length_cons, List.length_nil]; omega, nodup_snoc ndw fresh, fun x hx => ?_, fun j hj => ?_⟩
        rotate_left
        · rw [← List.append_assoc]
          by_cases ej : j = i
          · rw [ej]; exact List.mem_append_right _ (List.mem_singleton.mpr rfl)
          · exact List.mem_append_left _ (aw j (by omega))
        rcases List.mem_append.mp hx with hx | hx
        · obtain ⟨a1, a2, j, a3, a4⟩ := pw x hx
          exact ⟨a1, a2, j, by omega, a4⟩
        · rw [List.mem_singleton.mp hx]
          exact ⟨h, zz_nm (letter_sm (by omega)), i, by omega, rfl⟩
      · refine ⟨e3, ws, hD, by omega, ndw, fun x hx => ?_, fun j hj => by
          by_cases ej : j = i
          · rw [ej]; exact List.mem_append_left _ h
          · exact aw j (by omega)⟩
        obtain ⟨a1, a2, j, a3, a4⟩ := pw x hx
        exact ⟨a1, a2, j, by omega, a4⟩
    · rintro H3 ⟨e3, ws, hD, lw, ndw, pw, aw⟩
      have s8 : ("abcdefgh" : Str).cps.size = 8 := by decide +kernel
      rw [s8] at lw aw
      have l8 := zz_eight aw
      refine z_cat (e3 _ _ h2) hD (by rw [List.length_map, List.length_map]; omega) (fun l4 H4 n4 e4 h4 => ?_)
      rw [← List.map_append] at h4
      walk_at "zz"
      refine z_slL (SqL.of h4) (fun l5 H5 n5 e5 h5 => ?_)
      rw [cut_any] at h5
      have e25 : Same H2 H5 := e3.trans (e4.trans e5)
      have ndall : (zs ++ ws).Nodup := List.nodup_append.mpr ⟨nd, ndw, fun a ha b hb e => (pw b hb).1 (e ▸ ha)⟩
      refine q l5 ((zs ++ ws).take n) H5 ?_ h5 (List.Sublist.nodup (List.take_sublist _ _) ndall) (fun z hz => ?_) (by rw [List.length_take]; omega) ⟨fun b o nb hb => e25 _ _ (k2 b o nb (ne_of_none hb n1) hb), r2.same e25, hd⟩
      · cases e : H l5 with
        | none => rfl
        | some o =>
          have ns : l5 ≠ d := (r2.same (e3.trans e4)).ne n5
          rw [e4 _ _ (e3 _ _ (k2 _ o ns (ne_of_none e n1) e))] at n5
          cases n5
      · rcases List.mem_append.mp (List.mem_of_mem_take hz) with hz | hz
        · exact nm z hz
        · exact (pw z hz).2.1
theorem sorted_rise : ∀ {l : List Str}, sortedS l = true → l.Nodup → riseB l = true
  | [], _, _ => rfl
  | [x], _, _ => rfl
  | x :: y :: l, h, nd => by
    have h : risingS x (y :: l) = true := h
    unfold risingS at h
    rw [Bool.and_eq_true, ltCps_eq] at h
    obtain ⟨n1, n2⟩ := List.nodup_cons.mp nd
    have ih := sorted_rise (l := y :: l) h.2 n2
    unfold riseB
    rw [ih]
    have lt : x.cps.toList < y.cps.toList := by
      rcases lex_tri x.cps.toList y.cps.toList with q | q | q
      · exact q
      · exact absurd (str_ext q) (fun e => n1 (by simp [e]))
      · have := h.1
        rw [decide_eq_true q] at this
        cases this
    rw [decide_eq_true lt]
    rfl
theorem rise_sub {l m : List Str} (s : l.Sublist m) (h : riseB m = true) : riseB l = true := pw_rise (List.Pairwise.sublist s (rise_pw h))
theorem DaAll.perm {H : Hp} {xs ys : List V} (p : ys.Perm xs) : ∀ {ds : List PyData}, DaAll H xs ds → ∃ es, es.Perm ds ∧ DaAll H ys es := by
  induction p with
  | nil => intro ds h; cases h; exact ⟨[], .nil, .nil⟩
  | cons x p ih =>
    intro ds h
    cases h with
    | cons a g =>
      obtain ⟨es, pe, ge⟩ := ih g
      exact ⟨_ :: es, pe.cons _, .cons a ge⟩
  | swap x y l =>
    intro ds h
    cases h with
    | cons a g =>
      cases g with
      | cons b g => exact ⟨_, List.Perm.swap _ _ _, .cons b (.cons a g)⟩
  | trans p q ih1 ih2 =>
    intro ds h
    obtain ⟨es, pe, ge⟩ := ih2 h
    obtain ⟨fs, pf, gf⟩ := ih1 ge
    exact ⟨fs, pf.trans pe, gf⟩
theorem DaAll.txe {H : Hp} : ∀ {xs : List V} {ds : List PyData}, DaAll H xs ds → (∀ d ∈ ds, Headed d) → ∃ ts : List TtE, xs = ts.map (fun t => V.ref t.1) ∧ (∀ t ∈ ts, H t.1 = some (.tup (.str t.2.1 :: t.2.2))) ∧ ts.map (·.2.1) = nmsD ds
  | _, _, .nil, _ => ⟨[], rfl, fun t h => by simp at h, rfl⟩
  | _, _, .cons (d := d) a g, h => by
    obtain ⟨z, r, rfl⟩ := h d (by simp)
    obtain ⟨ts, rfl, ht, en⟩ := DaAll.txe g fun x hx => h x (by simp [hx])
    obtain ⟨p, xs, rfl, hp, ga⟩ := a.tupE
    obtain ⟨x0, xs0, rfl⟩ : ∃ x0 xs0, xs = x0 :: xs0 := by
      cases xs with
      | nil => cases ga
      | cons x0 xs0 => exact ⟨x0, xs0, rfl⟩
    have b1 : Da H x0 (.str z) := by
      cases ga with
      | cons b1 ga => exact b1
    obtain ⟨rfl, _, _⟩ := b1.strE
    refine ⟨(p, z, xs0) :: ts, rfl, fun t hm => ?_, by rw [List.map_cons, en]; rfl⟩
    rcases List.mem_cons.mp hm with rfl | hm
    · exact hp
    · exact ht t hm
theorem txe_names {H : Hp} : ∀ {us : List TtE} {es : List PyData}, DaAll H (us.map fun t => V.ref t.1) es → (∀ t ∈ us, H t.1 = some (.tup (.str t.2.1 :: t.2.2))) → (∀ d ∈ es, Headed d) → nmsD es = us.map (·.2.1)
  | [], _, h, _, _ => by cases h; rfl
  | t :: us, _, h, ht, hd => by
    rw [List.map_cons] at h
    cases h with
    | cons a g =>
      rename_i d ds
      obtain ⟨z, r, rfl⟩ := hd d (by simp)
      obtain ⟨p, xs, e, hp, ga⟩ := a.tupE
      cases e
      rw [ht t (by simp)] at hp
      cases hp
      rcases ga with _ | ⟨b1, ga⟩
      obtain ⟨e, _, _⟩ := b1.strE
      rw [nmsD, List.map_cons, List.map_cons, ← txe_names g (fun t h => ht t (by simp [h])) fun d h => hd d (by simp [h])]
      show z :: nmsD ds = t.2.1 :: nmsD ds
      cases e
      rfl
theorem nums_of {ps : List PyData} {n : Nat} (l : ps.length = n) (h1 : 1 ≤ n) (h3 : n ≤ 3) (h : ∀ x ∈ ps, ownD x = true) : numsD (.tuple ps) = true := by
  show nuB (ps.map ownD) = true
  unfold nuB
  rw [List.length_map, decide_eq_true (show 1 ≤ ps.length by omega), decide_eq_true (show ps.length ≤ 3 by omega)]
  refine List.all_eq_true.mpr fun x hx => ?_
  obtain ⟨y, hy, rfl⟩ := List.mem_map.mp hx
  exact h y hy
theorem own_noL {x : PyData} (h : ownD x = true) : noL x = true := by
  cases x <;> first | rfl | cases h
/-- what the rows' names say -/
theorem oth_rows {z : Str} {ds : List PyData} {ns : List Str} (hn : ∀ x ∈ ds, ∃ (y : Str) (r : List PyData), x = .tuple (.str y :: r) ∧ nmB y = true) (sub : (nmsD ds).Sublist ns) (up : riseB ns = true) (no : z ∉ ns) : OthP z (ds.map firstD) := by
  refine ⟨fun x hx => ?_, ?_, ?_⟩
  · obtain ⟨d, hd, rfl⟩ := List.mem_map.mp hx
    obtain ⟨y, r, rfl, h⟩ := hn d hd
    exact h
  · rw [map_names]
    exact fun h => no (sub.subset h)
  · rw [map_names]
    exact rise_sub sub up
theorem DaAll.strs_ {H : Hp} : ∀ {zs : List Str}, (∀ z ∈ zs, nmB z = true) → DaAll H (zs.map V.str) (zs.map PyData.str)
  | [], _ => .nil
  | z :: zs, h => .cons (Da.nm (h z (by simp))) (DaAll.strs_ fun x hx => h x (by simp [hx]))
theorem oth_strs {z : Str} {os : List Str} (hn : ∀ x ∈ os, nmB x = true) (up : riseB os = true) (no : z ∉ os) : othersD z (.tuple (os.map .str)) = true := by
  have e : (os.map PyData.str).map strD = os := by rw [List.map_map]; exact List.map_id' _
  refine oth_of ⟨fun x hx => ?_, by rw [e]; exact no, by rw [e]; exact up⟩
  obtain ⟨y, hy, rfl⟩ := List.mem_map.mp hx
  exact hn y hy
theorem pop_perm : ∀ {l : List Str} {k : Nat} {z : Str}, l[k]? = some z → (z :: l.eraseIdx k).Perm l
  | [], _, _, h => by simp at h
  | x :: l, 0, z, h => by cases h; exact List.Perm.refl _
  | x :: l, k + 1, z, h => (List.Perm.swap x z (l.eraseIdx k)).trans ((pop_perm (l := l) (k := k) h).cons x)
theorem map_pop : ∀ (l : List Str) (k : Nat), (l.map V.str).eraseIdx k = (l.eraseIdx k).map V.str
  | [], _ => rfl
  | x :: l, 0 => rfl
  | x :: l, k + 1 => by
    show V.str x :: (l.map V.str).eraseIdx k = V.str x :: (l.eraseIdx k).map V.str
    rw [map_pop l k]
theorem take_up {α : Type} {l : List α} {i : Nat} {m : List α} (h : m.Sublist (l.take i)) : m.Sublist (l.take (i + 1)) := by
  rw [List.take_add_one]
  exact h.trans (List.sublist_append_left _ _)
theorem take_snoc {α : Type} {l : List α} {i : Nat} {m : List α} {x : α} (hx : l[i]? = some x) (h : m.Sublist (l.take i)) : (m ++ [x]).Sublist (l.take (i + 1)) := by
  rw [List.take_add_one, hx]
  exact List.Sublist.append h (List.Sublist.refl _)
theorem nms_snoc (es : List PyData) (y : Str) (r : List PyData) : nmsD (es ++ [.tuple (.str y :: r)]) = nmsD es ++ [y] := by
  show List.map _ _ = _
  rw [List.map_append]
  rfl
def spBooksL : Sp := fun vs H Q _ => ∃ d : Addr, vs = [.ref d] ∧ SrcD H d ∧ ∀ (p : Addr) (z : Str) (l ve : Int) (us es as rs : List PyData) (H' : Hp), Good z l ve us es as rs → nmB z = true → Da H' (.ref p) (.tuple (bkL z l ve us es as rs)) → Dd d H H' → Q (.ref p) H'
set_option maxHeartbeats 60000000 in
theorem ok__law_books {f : Addr} {fd : FuncData} (F : FnP K "_law_books" s__law_books f fd) (m_range : mg "range" = none) (m_tuple : mg "tuple" = none) (m_sorted : mg "sorted" = none) (h__law_draw : Has P w K mg base 2 "_law_draw" ["_law_draw_here", "_law_many"] spDrawD) (h__law_one : Has P w K mg base 3 "_law_one" ["_law_draw_here", "_law_some"] spOneD) (h__law_number : Has P w K mg base 4 "_law_number" ["_law_draw_here"] spNumD) (h__law_row : Has P w K mg base 5 "_law_row" ["_law_draw_here", "_law_many"] spLRow) (h__law_names : Has P w K mg base 4 "_law_names" ["_law_draw_here", "_law_many"] spNamesD) : FnOk P w K mg base CX0 6 f fd ["_law_draw_here"] spBooksL := by
  refine F.ok sc__law_books (fun vs H Q E h => ?_) (fun cdv A outer s0 H vs Q E hr h => ?_)
  · obtain ⟨d, rfl, _⟩ := h; rfl
  obtain ⟨d, rfl, hs, q⟩ := h
  refine ⟨_, PSs.nox (pss_cons (ps_set (i := 1) sc__law_books.nd rfl (.inl rfl) (pe_callB cr_sortedS (by rfl) m_sorted (by decide +kernel) (pa_cons (pe_callH h__law_names (hr.mono (by decide)) (by rfl) (pa_cons (pv 0) (pa_cons pe_int pa_nil))) pa_nil)))
  (pss_cons (ps_set (i := 2) sc__law_books.nd rfl (.inl rfl) (pe_bm PySem.F.plainAttrs_list PySem.F.slot_list_pop PySem.F.type_list_pop mt_popAt (pv 1) (pa_cons (pe_callH h__law_draw (hr.mono (by decide)) (by rfl) (pa_cons (pv 0) (pa_cons pe_int pa_nil))) pa_nil)))
  (pss_cons (ps_set (i := 3) sc__law_books.nd rfl (.inl rfl) (pe_op op_add pe_int (pe_callH h__law_draw (hr.mono (by decide)) (by rfl) (pa_cons (pv 0) (pa_cons pe_int pa_nil)))))
  (pss_cons (ps_set (i := 4) sc__law_books.nd rfl (.inl rfl) (pe_callTy (call_tupleE K) (by rfl) m_tuple (by decide +kernel) (pa_cons (pe_lc (own := [("_law_k", 15)]) (g := (gName 15)) (by rfl) sc__law_books.nd (pi_range1 (by rfl) m_range (pa_cons (pv 3) pa_nil)) (blkOk_by (own := [("_law_k", 15)]) (N := ["_law_draw_here", "_law_names_here", "_law_name_here", "_law_many", "_law_numbers", "_law_eras", "_law_some", "_law_one_here", "_law_era", "_law_seen", "_law_counts", "_law_life", "_law_version", "_law_roll", "_law_others", "_law_k", "_law_other"]) (sc := defScope s__law_books) (by decide +kernel)) (fun _ _ _ _ _ => (pg_name (i := 15) sc__law_books.nd rfl (.inl rfl))) (fun _ _ _ _ _ => pts_nil) (fun _ _ _ _ _ => (pe_callH h__law_number (hr.mono (by decide)) (by rfl) (pa_cons (pv 0) pa_nil)))) pa_nil)))
  (pss_cons (ps_set (i := 5) sc__law_books.nd rfl (.inl rfl) (pe_callTy (call_tupleE K) (by rfl) m_tuple (by decide +kernel) (pa_cons (pe_lc (own := [("_law_one_here", 7)]) (g := (gName 7)) (by rfl) sc__law_books.nd (pi_listE K (pe_slice (sl_listE K) (pv 1) po_none (po_some pe_int))) (blkOk_by (own := [("_law_one_here", 7)]) (N := ["_law_draw_here", "_law_names_here", "_law_name_here", "_law_many", "_law_numbers", "_law_eras", "_law_some", "_law_one_here", "_law_era", "_law_seen", "_law_counts", "_law_life", "_law_version", "_law_roll", "_law_others", "_law_k", "_law_other"]) (sc := defScope s__law_books) (by decide +kernel)) (fun _ _ _ _ _ => (pg_name (i := 7) sc__law_books.nd rfl (.inl rfl))) (fun _ _ _ _ _ => (pts_one (pt_cmpR op_gt (pe_callH h__law_draw (hr.mono (by decide)) (by rfl) (pa_cons (pv 0) (pa_cons pe_int pa_nil))) pe_int (nomark _)))) (fun _ _ _ _ _ => (pe_tup (pa_cons (pv 7) (pa_cons (pe_callH h__law_draw (hr.mono (by decide)) (by rfl) (pa_cons (pv 0) (pa_cons pe_int pa_nil))) pa_nil))))) pa_nil)))
  (pss_cons (ps_set (i := 6) sc__law_books.nd rfl (.inl rfl) (pe_lst pa_nil))
  (pss_cons (ps_for PassesOwn.never rfl (pi_tupE K (pv 5)) (pg_tup rfl (pgs_cons (pg_name (i := 7) sc__law_books.nd rfl (.inr rfl)) (pgs_cons (pg_name (i := 8) sc__law_books.nd rfl (.inl rfl)) pgs_nil)))
    (pss_one (ps_if (pt_cmpR op_gt (pe_callH h__law_draw (hr.mono (by decide)) (by rfl) (pa_cons (pv 0) (pa_cons pe_int pa_nil))) pe_int (nomark _))
    (pss_cons (ps_set (i := 9) sc__law_books.nd rfl (.inl rfl) (pe_callH h__law_one (hr.mono (by decide)) (by rfl) (pa_cons (pv 0) (pa_cons (pe_lst (pa_cons pe_non (pa_cons (pe_tup (pa_cons pe_int (pa_cons pe_int pa_nil))) (pa_cons (pe_tup (pa_cons (pe_op op_add pe_int (pe_callH h__law_draw (hr.mono (by decide)) (by rfl) (pa_cons (pv 0) (pa_cons pe_int pa_nil)))) (pa_cons (pe_callH h__law_draw (hr.mono (by decide)) (by rfl) (pa_cons (pv 0) (pa_cons pe_int pa_nil))) pa_nil))) pa_nil)))) pa_nil))))
  (pss_cons (ps_set (i := 10) sc__law_books.nd rfl (.inl rfl) (pe_lst (pa_cons (pe_callH h__law_draw (hr.mono (by decide)) (by rfl) (pa_cons (pv 0) (pa_cons pe_int pa_nil))) (pa_cons (pe_callH h__law_draw (hr.mono (by decide)) (by rfl) (pa_cons (pv 0) (pa_cons pe_int pa_nil))) pa_nil))))
  (pss_one (ps_expr (pe_bm PySem.F.plainAttrs_list PySem.F.slot_list_append PySem.F.type_list_append mt_append (pv 6) (pa_cons (pe_tup (pa_cons (pv 7) (pa_cons (pv 9) (pa_cons (pe_ix (ix_listE K) (pv 10) pe_int (fun _ _ => rfl)) (pa_cons (pe_callH h__law_row (hr.mono (by decide)) (by rfl) (pa_cons (pv 0) (pa_cons (pv 3) pa_nil))) (pa_cons (pe_ix (ix_listE K) (pv 10) pe_int (fun _ _ => rfl)) (pa_cons (pe_callH h__law_row (hr.mono (by decide)) (by rfl) (pa_cons (pv 0) (pa_cons (pv 3) pa_nil))) pa_nil))))))) pa_nil))))))
    pss_nil)))
  (pss_cons (ps_set (i := 11) sc__law_books.nd rfl (.inl rfl) (pe_op op_add pe_int (pe_callH h__law_draw (hr.mono (by decide)) (by rfl) (pa_cons (pv 0) (pa_cons pe_int pa_nil)))))
  (pss_cons (ps_set (i := 12) sc__law_books.nd rfl (.inl rfl) (pe_op op_add pe_int (pe_callH h__law_draw (hr.mono (by decide)) (by rfl) (pa_cons (pv 0) (pa_cons pe_int pa_nil)))))
  (pss_cons (ps_set (i := 13) sc__law_books.nd rfl (.inl rfl) (pe_lst (pa_cons (pe_tup (pa_cons (pv 2) (pa_cons (pv 11) (pa_cons (pv 12) (pa_cons (pv 4) (pa_cons (pe_callTy (call_tupleE K) (by rfl) m_tuple (by decide +kernel) (pa_cons (pe_lc (own := [("_law_one_here", 7)]) (g := (gName 7)) (by rfl) sc__law_books.nd (pi_listE K (pv 6)) (blkOk_by (own := [("_law_one_here", 7)]) (N := ["_law_draw_here", "_law_names_here", "_law_name_here", "_law_many", "_law_numbers", "_law_eras", "_law_some", "_law_one_here", "_law_era", "_law_seen", "_law_counts", "_law_life", "_law_version", "_law_roll", "_law_others", "_law_k", "_law_other"]) (sc := defScope s__law_books) (by decide +kernel)) (fun _ _ _ _ _ => (pg_name (i := 7) sc__law_books.nd rfl (.inl rfl))) (fun _ _ _ _ _ => pts_nil) (fun _ _ _ _ _ => (pe_ix (ix_tupE K) (pv 7) pe_int (fun _ _ => rfl)))) pa_nil)) pa_nil)))))) pa_nil)))
  (pss_cons (ps_for PassesOwn.never rfl (pi_listE K (pv 1)) (pg_name (i := 7) sc__law_books.nd rfl (.inr rfl))
    (pss_one (ps_if (pt_cmpR op_eq (pe_callH h__law_draw (hr.mono (by decide)) (by rfl) (pa_cons (pv 0) (pa_cons pe_int pa_nil))) pe_int (nomark _))
    (pss_cons (ps_set (i := 14) sc__law_books.nd rfl (.inl rfl) (pe_callTy (call_tupleE K) (by rfl) m_tuple (by decide +kernel) (pa_cons (pe_lc (own := [("_law_other", 16)]) (g := (gName 16)) (by rfl) sc__law_books.nd (pi_listE K (pe_callB cr_sortedS (by rfl) m_sorted (by decide +kernel) (pa_cons (pe_op op_cat (pv 1) (pe_lst (pa_cons (pv 2) pa_nil))) pa_nil))) (blkOk_by (own := [("_law_other", 16)]) (N := ["_law_draw_here", "_law_names_here", "_law_name_here", "_law_many", "_law_numbers", "_law_eras", "_law_some", "_law_one_here", "_law_era", "_law_seen", "_law_counts", "_law_life", "_law_version", "_law_roll", "_law_others", "_law_k", "_law_other"]) (sc := defScope s__law_books) (by decide +kernel)) (fun _ _ _ _ _ => (pg_name (i := 16) sc__law_books.nd rfl (.inl rfl))) (fun _ _ _ _ _ => (pts_one (PW.pt (pw_and (pt_cmpR op_ne (pv 16) (pv 7) (nomark _)) (pw_and1 (pt_cmpR op_eq (pe_callH h__law_draw (hr.mono (by decide)) (by rfl) (pa_cons (pv 0) (pa_cons pe_int pa_nil))) pe_int (nomark _))))))) (fun _ _ _ _ _ => (pv 16))) pa_nil)))
  (pss_one (ps_expr (pe_bm PySem.F.plainAttrs_list PySem.F.slot_list_append PySem.F.type_list_append mt_append (pv 13) (pa_cons (pe_tup (pa_cons (pv 7) (pa_cons (pe_op op_add pe_int (pe_callH h__law_draw (hr.mono (by decide)) (by rfl) (pa_cons (pv 0) (pa_cons pe_int pa_nil)))) (pa_cons pe_int (pa_cons (pe_callTy (call_tupleE K) (by rfl) m_tuple (by decide +kernel) (pa_cons (pe_lc (own := [("_law_k", 15)]) (g := (gName 15)) (by rfl) sc__law_books.nd (pi_range1 (by rfl) m_range (pa_cons (pv 3) pa_nil)) (blkOk_by (own := [("_law_k", 15)]) (N := ["_law_draw_here", "_law_names_here", "_law_name_here", "_law_many", "_law_numbers", "_law_eras", "_law_some", "_law_one_here", "_law_era", "_law_seen", "_law_counts", "_law_life", "_law_version", "_law_roll", "_law_others", "_law_k", "_law_other"]) (sc := defScope s__law_books) (by decide +kernel)) (fun _ _ _ _ _ => (pg_name (i := 15) sc__law_books.nd rfl (.inl rfl))) (fun _ _ _ _ _ => pts_nil) (fun _ _ _ _ _ => (pe_callH h__law_number (hr.mono (by decide)) (by rfl) (pa_cons (pv 0) pa_nil)))) pa_nil)) (pa_cons (pv 14) pa_nil)))))) pa_nil)))))
    pss_nil)))
  (pss_one (ps_ret (pe_tup (pa_cons (pv 2) (pa_cons (pv 11) (pa_cons (pv 12) (pa_cons (pv 4) (pa_cons (pv 5) (pa_cons (pe_callTy (call_tupleE K) (by rfl) m_tuple (by decide +kernel) (pa_cons (pv 6) pa_nil)) (pa_cons (pe_callTy (call_tupleE K) (by rfl) m_tuple (by decide +kernel) (pa_cons (pe_callB (cr_sortE K) (by rfl) m_sorted (by decide +kernel) (pa_cons (pv 13) pa_nil)) pa_nil)) pa_nil))))))))))))))))))))), ?_⟩
  walk_at "zz"
  refine ⟨d, 6, rfl, by decide, hs, fun l1 zs H1 n1 h1 nd1 nm1 len1 d1 => ?_⟩
  walk_at "zz"
  refine ⟨l1, zs, rfl, SqL.of h1, by omega, fun ys l2 pm so n2 => ?_⟩
  have e2 : Same H1 (upd H1 l2 (.lst (ys.map V.str))) := same_upd n2
  have h2 : upd H1 l2 (.lst (ys.map V.str)) l2 = some (.lst (ys.map V.str)) := upd_same
  have n2H : H l2 = none := d1.back n2
  generalize upd H1 l2 (.lst (ys.map V.str)) = H2 at e2 h2 ⊢
  have D2 := d1.trans (Dd.of_same d1.src e2)
  have ndy := pm.nodup_iff.mpr nd1
  have upy := sorted_rise so ndy
  have leny : ys.length = 6 := by rw [pm.length_eq, len1]
  have nmy : ∀ z ∈ ys, nmB z = true := fun z hz => nm1 z (pm.mem_iff.mp hz)
  have l2d : l2 ≠ d := hs.ne n2H
  walk_at "zz"
  refine ⟨.inl ⟨rfl, _, SqL.of h2⟩, ?_⟩
  walk_at "zz"
  refine ⟨d, _, rfl, by decide, D2.src, fun r3 H3 r30 r31 d3 => ?_⟩
  obtain ⟨k, rfl⟩ : ∃ j : Nat, r3 = (j : Int) := ⟨r3.toNat, by omega⟩
  have h3 := d3.lst h2
  have D3 := D2.trans d3
  walk_at "zz"
  obtain ⟨z, hz⟩ : ∃ z, ys[k]? = some z := ⟨_, List.getElem?_eq_getElem (by omega)⟩
  refine ⟨l2, ys.map V.str, (k : Int), k, .str z, rfl, rfl, h3, by omega, by omega, ?_, by rw [List.getElem?_map, hz]; rfl, ?_⟩
  · rw [List.length_map, leny]
    rcases (show k = 0 ∨ k = 1 ∨ k = 2 ∨ k = 3 ∨ k = 4 ∨ k = 5 by omega) with rfl | rfl | rfl | rfl | rfl | rfl <;> rfl
  have D4 : Dd d H (upd H3 l2 (.lst ((ys.map V.str).eraseIdx k))) := D3.updN n2H
  have h4 : upd H3 l2 (.lst ((ys.map V.str).eraseIdx k)) l2 = some (.lst ((ys.eraseIdx k).map V.str)) := by rw [upd_same, map_pop]
  generalize upd H3 l2 (.lst ((ys.map V.str).eraseIdx k)) = H4 at D4 h4 ⊢
  have upn : riseB (ys.eraseIdx k) = true := rise_sub (List.eraseIdx_sublist _ _) upy
  have pz := pop_perm hz
  have lenn : (ys.eraseIdx k).length = 5 := by have := pz.length_eq; rw [List.length_cons] at this; omega
  have nmn : ∀ x ∈ ys.eraseIdx k, nmB x = true := fun x hx => nmy x ((List.eraseIdx_sublist _ _).subset hx)
  have nmz : nmB z = true := nmy z (List.mem_of_getElem? hz)
  have zno : z ∉ ys.eraseIdx k := (List.nodup_cons.mp (pz.nodup_iff.mpr ndy)).1
  generalize ys.eraseIdx k = ns at h4 upn pz lenn nmn zno
  clear h2 h3 e2 d3 D2 D3 so pm h1 nd1 nm1 len1 n1 d1 hz r30 r31 n2
  walk_at "zz"
  refine ⟨d, _, rfl, by decide, D4.src, fun r5 H5 r50 r51 d5 => ?_⟩
  obtain ⟨m, hm⟩ : ∃ j : Nat, 1 + r5 = (j : Int) := ⟨(1 + r5).toNat, by omega⟩
  have h5 := d5.lst h4
  have D5 := D4.trans d5
  clear D4 d5
  walk_at "zz"
  rw [hm]
  show iRng1 _ _ _ _
  walk_at "zz"
  refine ⟨_, rfl, by omega, by omega, fun Dn nDn => ?_⟩
  rw [show ((m : Int)).toNat = m by omega]
  refine lc_range (lo := 0) (n := m) (fun i H' => Dd d H5 H' ∧ ∃ acc ps, H' Dn = some (.lst acc) ∧ DaAll H' acc ps ∧ ps.length = i ∧ ∀ x ∈ ps, ownD x = true) ⟨(Dd.of_same D5.src Same.rfl_).updN nDn, [], [], upd_same, .nil, rfl, fun x hx => by simp at hx⟩ ?_ ?_
  · rintro i H6 hi ⟨d6, acc, ps, hD, ga, lp, pp⟩
    refine ⟨rfl, ?_⟩
    walk_at "zz"
    refine ⟨d, rfl, d6.src, fun n7 H7 far d7 => ?_⟩
    have k7 := KD.of_dd d7
    have hD7 := k7.l _ _ hD
    have la := ga.len
    refine ⟨acc, hD7, small1000 (by omega), (d6.trans d7).updN nDn, _, ps ++ [.int n7], upd_same, DaAll.app (DaAll.mvT (KT.updL hD7) (DaAll.mv k7 ga) (noLs_iff.mpr fun x hx => own_noL (pp x hx))) (.cons (.int n7) .nil), by rw [List.length_append, lp]; rfl, fun x hx => ?_⟩
    rcases List.mem_append.mp hx with hx | hx
    · exact pp x hx
    · rw [List.mem_singleton.mp hx]; exact far
  rintro H6 ⟨d6, acc, us, hD, ga, lu, pu⟩
  walk_at "zz"
  refine z_tupleL hD (fun pn H7 n7 e7 h7 => ?_)
  have D7 := D5.trans (d6.trans (Dd.of_same d6.src e7))
  have b7 : Da H7 (.ref pn) (.tuple us) := .tup h7 (DaAll.mv (KD.of_same e7) ga)
  have l7 := e7 _ _ (d6.lst h5)
  clear hD ga h7 n7 nDn h5 D5 d6 e7 h4
  walk_at "zz"
  show iList K _ _ _ _
  walk_at "zz"
  refine z_slL (SqL.of l7) (fun l8 H8 n8 e8 h8 => ?_)
  rw [show (4 : Int) = ((4 : Nat) : Int) from rfl, cut_any] at h8
  have D8 := D7.trans (Dd.of_same D7.src e8)
  have b8 := b7.mv (KD.of_same e8)
  have l28 := e8 _ _ l7
  clear D7 b7 l7 e8 n8
  walk_at "zz"
  refine ⟨l8, rfl, ⟨_, SqL.of h8⟩, fun De nDe => lc_list (xs := (ns.take 4).map V.str) (fun i H' => Dd d H8 H' ∧ ∃ acc es, H' De = some (.lst acc) ∧ DaAll H' acc es ∧ es.length ≤ i ∧ (∀ x ∈ es, eraD x = true) ∧ (nmsD es).Sublist ((ns.take 4).take i)) ⟨(Dd.of_same D8.src Same.rfl_).updN nDe, [], [], upd_same, .nil, Nat.zero_le _, fun x hx => by simp at hx, List.nil_sublist _⟩ (fun i H' _ h => SqL.of (h.1.lst h8)) ?_ ?_⟩
  · rintro i x H9 hx ⟨d9, acc, es, hD, ga, le, pe, sb⟩
    rw [List.getElem?_map] at hx
    obtain ⟨y, hy, rfl⟩ := Option.map_eq_some_iff.mp hx
    have ny := nmn y (List.mem_of_mem_take (List.mem_of_getElem? hy))
    have il := (List.getElem?_eq_some_iff.mp hy).1
    rw [List.length_take] at il
    refine ⟨rfl, ?_⟩
    walk_at "zz"
    refine ⟨d, _, rfl, by decide, d9.src, fun ra Ha ra0 ra1 da => ?_⟩
    walk_at "zz"
    refine z_ite (fun h0 => ?_) (fun h0 => ?_)
    · walk_at "zz"
      refine ⟨d, _, rfl, by decide, da.src, fun rb Hb rb0 rb1 db => ?_⟩
      walk_at "zz"
      refine d_tup (.cons (Da.nm ny) (.cons (.int rb) .nil)) (by simp) (fun pc Hc ec bc => ?_)
      have kc := (KD.of_dd (da.trans db)).trans (KD.of_same ec)
      have hDc := kc.l _ _ hD
      have la := ga.len
      refine ⟨acc, hDc, small1000 (by omega), (d9.trans ((da.trans db).trans (Dd.of_same db.src ec))).updN nDe, _, es ++ [.tuple [.str y, .int rb]], upd_same, DaAll.app (DaAll.mvT (KT.updL hDc) (DaAll.mv kc ga) (noLs_iff.mpr fun x hx => era_noL (pe x hx))) (.cons (Da.mvT (KT.updL hDc) bc rfl) .nil), by rw [List.length_append]; simp; omega, fun x hx => ?_, by rw [nms_snoc]; exact take_snoc hy sb⟩
      rcases List.mem_append.mp hx with hx | hx
      · exact pe x hx
      · rw [List.mem_singleton.mp hx]
        show (nmB y && decide (0 ≤ rb)) = true
        rw [ny, decide_eq_true rb0]
        rfl
    · exact ⟨d9.trans da, acc, es, da.lst hD, DaAll.mv (KD.of_dd da) ga, by omega, pe, take_up sb⟩
  rintro H9 ⟨d9, acc, es, hD, ga, le, pe, sb⟩
  rw [List.length_map, List.take_of_length_le (Nat.le_refl _)] at sb
  rw [List.length_map, List.length_take] at le
  walk_at "zz"
  refine z_tupleL hD (fun pE HE nE eE hE => ?_)
  have DE := D8.trans (d9.trans (Dd.of_same d9.src eE))
  have gE := DaAll.mv (KD.of_same eE) ga
  have kE := (KD.of_dd d9).trans (KD.of_same eE)
  have bU := b8.mv kE
  have l2E := eE _ _ (d9.lst l28)
  clear hD ga nE nDe D8 d9 b8 l28 h8 kE eE
  walk_at "zz"
  refine z_new (by simp) (fun L HL nL eL hL => ?_)
  walk_at "zz"
  refine ⟨pE, rfl, ⟨_, SqT.of (eL _ _ hE)⟩, for_tup (xs := acc) (fun i σ H' => (∃ y7 y8 y9 y10, σ = [some (.ref d), some (.ref l2), some (.str z), some (.int (m : Int)), some (.ref pn), some (.ref pE), some (.ref L), y7, y8, y9, y10, none, none, none, none, none, none]) ∧ Dd d HE H' ∧ ∃ as bcc, H' L = some (.lst bcc) ∧ DaAll H' bcc as ∧ as.length ≤ i ∧ (∀ x ∈ as, accD (m + 1) x = true) ∧ (nmsD as).Sublist ((nmsD es).take i)) ⟨⟨_, _, _, _, rfl⟩, Dd.of_same DE.src eL, [], [], hL, .nil, Nat.zero_le _, fun x hx => by simp at hx, List.nil_sublist _⟩ (fun i σ H' _ h => SqT.of (h.2.1.tup hE)) ?_ ?_⟩
  · rintro i x σ Ha hx ⟨⟨y7, y8, y9, y10, rfl⟩, da, as, bcc, hLa, ga, la, pa, sa⟩
    obtain ⟨dy, hdy, by_⟩ := (DaAll.mv (KD.of_dd da) gE).get hx
    have il : i < es.length := (List.getElem?_eq_some_iff.mp hdy).1
    obtain ⟨zy, c, rfl, nzy, _⟩ := era_shape (pe dy (List.mem_of_getElem? hdy))
    have hny : (nmsD es)[i]? = some zy := by rw [List.getElem?_map, hdy]; rfl
    obtain ⟨py, yx, rfl, hpy, gy⟩ := by_.tupE
    rcases gy with _ | ⟨b1, gy⟩
    rcases gy with _ | ⟨b2, gy⟩
    cases gy
    obtain ⟨rfl, _, _⟩ := b1.strE
    cases b2.intE
    refine z_gTup (SqT.of hpy) rfl ?_
    walk_at "zz"
    refine ⟨d, _, rfl, by decide, da.src, fun rb Hb rb0 rb1 db => ?_⟩
    walk_at "zz"
    refine z_ite (fun h0 => ?_) (fun h0 => ?_)
    · walk_at "zz"
      refine d_tup (.cons (.int 1) (.cons (.int 0) .nil)) (by simp) (fun pc Hc ec bc => ?_)
      have Dc := db.trans (Dd.of_same db.src ec)
      walk_at "zz"
      refine ⟨d, _, rfl, by decide, Dc.src, fun rd Hd rd0 rd1 dd => ?_⟩
      walk_at "zz"
      refine ⟨d, _, rfl, by decide, dd.src, fun re He re0 re1 de => ?_⟩
      walk_at "zz"
      refine d_tup (.cons (.int (1 + rd)) (.cons (.int re) .nil)) (by simp) (fun pf Hf ef bf => ?_)
      have De := dd.trans de
      walk_at "zz"
      refine d_menu (R := fun x => seenD x = true) (.cons .non rfl (.cons (bc.mv ((KD.of_dd De).trans (KD.of_same ef))) rfl (.cons bf (by show (decide (1 ≤ 1 + rd) && decide (0 ≤ re)) = true; rw [decide_eq_true (by omega), decide_eq_true re0]; rfl) .nil))) (by simp) (fun pg Hg eg hg ag => ?_)
      walk_at "zz"
      have efg := ef.trans eg
      have Dg := (Dc.trans De).trans (Dd.of_same De.src efg)
      refine d_one Dg.src hg ag (by simp) (by simp) (fun vs0 ds0 Hs bs rs0 ddS => ?_)
      have Ds := Dg.trans ddS
      walk_at "zz"
      refine ⟨d, _, rfl, by decide, Ds.src, fun rh Hh rh0 rh1 dh => ?_⟩
      walk_at "zz"
      refine ⟨d, _, rfl, by decide, dh.src, fun ri Hi ri0 ri1 di => ?_⟩
      walk_at "zz"
      refine z_new (by simp) (fun pj Hj nj ej hj => ?_)
      have dhi := dh.trans di
      have Dj := Ds.trans (dhi.trans (Dd.of_same dhi.src ej))
      have bsj := bs.mv ((KD.of_dd dhi).trans (KD.of_same ej))
      walk_at "zz"
      refine ⟨.inl ⟨rfl, _, SqL.of (Dj.lst hLa)⟩, ?_⟩
      walk_at "zz"
      refine z_ixL (SqL.of hj) (show atI _ ((0 : Nat) : Int) = some (V.int rh) from atI_nat rfl) ?_
      walk_at "zz"
      refine ⟨d, m, rfl, Dj.src, by omega, fun pk e1 Hk bk rk dk => ?_⟩
      walk_at "zz"
      refine z_ixL (SqL.of (dk.lst hj)) (show atI _ ((1 : Nat) : Int) = some (V.int ri) from atI_nat rfl) ?_
      walk_at "zz"
      refine ⟨d, m, rfl, dk.src, by omega, fun po e2 Ho bo ro do_ => ?_⟩
      walk_at "zz"
      have kko := KD.of_dd do_
      refine d_tup (.cons (Da.nm nzy) (.cons (bsj.mv ((KD.of_dd dk).trans kko)) (.cons (.int rh) (.cons (bk.mv kko) (.cons (.int ri) (.cons bo .nil)))))) (by simp) (fun pt Ht et bt => ?_)
      have Dt := (Dj.trans (dk.trans do_)).trans (Dd.of_same do_.src et)
      have hLt := Dt.lst hLa
      have lb := ga.len
      have okA : accD (m + 1) (.tuple [.str zy, ds0, .int rh, e1, .int ri, e2]) = true := by
        show (nmB zy && (seenD ds0 && (decide (0 ≤ rh) && (rowD (m + 1) e1 && (decide (0 ≤ ri) && rowD (m + 1) e2))))) = true
        rw [nzy, rs0, decide_eq_true rh0, rk, decide_eq_true ri0, ro]
        rfl
      walk_at "zz"
      refine ⟨L, _, _, rfl, rfl, hLt, small1000 (by omega), ⟨_, _, _, _, rfl⟩, (da.trans Dt).updN nL, as ++ [_], _, upd_same, DaAll.app (DaAll.mvT (KT.updL hLt) (DaAll.mv (KD.of_dd Dt) ga) (noLs_iff.mpr fun x hx => acc_noL (pa x hx))) (.cons (Da.mvT (KT.updL hLt) bt (acc_noL okA)) .nil), by rw [List.length_append]; simp; omega, fun x hx => ?_, by rw [nms_snoc]; exact take_snoc hny sa⟩
      rcases List.mem_append.mp hx with hx | hx
      · exact pa x hx
      · rw [List.mem_singleton.mp hx]; exact okA
    · walk_at "zz"
      exact ⟨⟨_, _, _, _, rfl⟩, da.trans db, as, bcc, db.lst hLa, DaAll.mv (KD.of_dd db) ga, by omega, pa, take_up sa⟩
  rintro σ Hm ⟨⟨y7, y8, y9, y10, rfl⟩, dm, as, bcc, hLm, gA, lA, pA, sA⟩
  have lacc := gE.len
  rw [List.take_of_length_le (by rw [List.length_map, lacc]; exact Nat.le_refl _)] at sA
  have aHd : ∀ x ∈ as, ∃ (y : Str) (r : List PyData), x = .tuple (.str y :: r) ∧ nmB y = true := fun x hx => by
    obtain ⟨y, _, _, _, _, _, rfl, h1, _⟩ := acc_shape (pA x hx)
    have e := name_str h1
    rw [e] at h1
    rw [e]
    exact ⟨_, _, rfl, h1⟩
  have eHd : ∀ x ∈ es, ∃ (y : Str) (r : List PyData), x = .tuple (.str y :: r) ∧ nmB y = true := fun x hx => by
    obtain ⟨y, c, rfl, h1, _⟩ := era_shape (pe x hx)
    exact ⟨_, _, rfl, h1⟩
  have sE : (nmsD es).Sublist ns := sb.trans (List.take_sublist _ _)
  have sAn := sA.trans sE
  have hHd : ∀ x ∈ as, Headed x := fun x hx => by
    obtain ⟨y, r, e, _⟩ := aHd x hx
    exact ⟨y, r, e⟩
  walk_at "zz"
  refine ⟨d, _, rfl, by decide, dm.src, fun rl Hl rl0 rl1 dl => ?_⟩
  walk_at "zz"
  refine ⟨d, _, rfl, by decide, dl.src, fun rv Hv rv0 rv1 dv => ?_⟩
  have dlv := dl.trans dv
  have hLv := dlv.lst hLm
  have gAv := DaAll.mv (KD.of_dd dlv) gA
  have Dv := dm.trans dlv
  clear hLm gA
  walk_at "zz"
  show iList K _ _ _ _
  walk_at "zz"
  refine ⟨L, rfl, ⟨_, SqL.of hLv⟩, fun Dk nDk => lc_list (xs := bcc) (fun i H' => Same Hv H' ∧ H' Dk = some (.lst (((nmsD as).take i).map V.str))) ⟨same_upd nDk, upd_same⟩ (fun i H' _ h => SqL.of (h.1 _ _ hLv)) ?_ ?_⟩
  · rintro i x Ha hx ⟨ea, hD⟩
    obtain ⟨dy, hdy, by_⟩ := (DaAll.mv (KD.of_same ea) gAv).get hx
    obtain ⟨zy, r, rfl⟩ := hHd dy (List.mem_of_getElem? hdy)
    have hny : (nmsD as)[i]? = some zy := by rw [List.getElem?_map, hdy]; rfl
    have il : i < as.length := (List.getElem?_eq_some_iff.mp hdy).1
    refine ⟨rfl, ?_⟩
    walk_at "zz"
    refine d_ix (i := 0) by_ rfl (fun w1 b1 => ?_)
    obtain ⟨rfl, _, _⟩ := b1.strE
    refine ⟨_, hD, small1000 (by rw [List.length_map, List.length_take, List.length_map]; omega), fun b o hb => by rw [upd_ne (ne_of_none hb nDk)]; exact ea _ _ hb, ?_⟩
    rw [upd_same, List.take_add_one, hny, List.map_append]
    rfl
  rintro Ha ⟨ea, hD⟩
  rw [List.take_of_length_le (by rw [List.length_map, gAv.len]; exact Nat.le_refl _)] at hD
  walk_at "zz"
  refine z_tupleL hD (fun pO HO_ nO eO hO => ?_)
  have eaO := ea.trans eO
  have bO : Da HO_ (.ref pO) (.tuple (as.map firstD)) := .tup hO (firsts_da gAv hHd)
  have DO := Dv.trans (Dd.of_same Dv.src eaO)
  have bUo := bU.mv (KD.of_dd DO)
  walk_at "zz"
  refine d_tup (.cons (Da.nm nmz) (.cons (.int (1 + rl)) (.cons (.int (1 + rv)) (.cons bUo (.cons bO .nil))))) (by simp) (fun pW HW eW bW => ?_)
  have DW := DO.trans (Dd.of_same DO.src eW)
  have l2W := DW.lst l2E
  have kAW := (KD.of_same eaO).trans (KD.of_same eW)
  have hLW := kAW.l _ _ hLv
  have gAW := DaAll.mv kAW gAv
  have oA := oth_rows aHd sAn upn zno
  have oE := oth_rows eHd sE upn zno
  have numU : numsD (.tuple us) = true := nums_of lu (by omega) (by omega) pu
  have okW : entryD us.length (.tuple [.str z, .int (1 + rl), .int (1 + rv), .tuple us, .tuple (as.map firstD)]) = true := by
    show (nmB z && (decide (1 ≤ 1 + rl) && (decide (1 ≤ 1 + rv) && (numsD (.tuple us) && (decide (us.length = us.length) && othersD z (.tuple (as.map firstD))))))) = true
    rw [nmz, decide_eq_true (by omega), decide_eq_true (by omega), numU, decide_eq_true rfl, oth_of oA]
    rfl
  clear hD hO nO bO bUo hLv gAv Dv DO ea eO eaO eW kAW nDk dlv dl dv
  walk_at "zz"
  refine z_new (by simp) (fun R HR nR eR hR => ?_)
  walk_at "zz"
  refine ⟨l2, rfl, ⟨_, SqL.of (eR _ _ l2W)⟩, for_list (xs := ns.map V.str) (fun i σ H' => (∃ y7 y8 y9 y10 y14 y15, σ = [some (.ref d), some (.ref l2), some (.str z), some (.int (m : Int)), some (.ref pn), some (.ref pE), some (.ref L), y7, y8, y9, y10, some (.int (1 + rl)), some (.int (1 + rv)), some (.ref R), y14, y15, none]) ∧ Dd d HW H' ∧ ∃ rs bcc, H' R = some (.lst bcc) ∧ DaAll H' bcc (PyData.tuple [.str z, .int (1 + rl), .int (1 + rv), .tuple us, .tuple (as.map firstD)] :: rs) ∧ rs.length ≤ i ∧ (∀ x ∈ rs, entryD us.length x = true) ∧ (nmsD rs).Sublist (ns.take i) ∧ ∀ a b c u os, PyData.tuple [a, b, c, u, .tuple os] ∈ rs → os.length ≤ 10) ⟨⟨_, _, _, _, _, _, rfl⟩, Dd.of_same DW.src eR, [], [.ref pW], hR, .cons (bW.mv (KD.of_same eR)) .nil, Nat.zero_le _, fun x hx => by simp at hx, List.nil_sublist _, fun _ _ _ _ _ hx => by simp at hx⟩ (fun i σ H' _ h => SqL.of (h.2.1.lst l2W)) ?_ ?_⟩
  · rintro i x σ Ha hx ⟨⟨y7, y8, y9, y10, y14, y15, rfl⟩, da, rs, bcc, hRa, ga, la, pa, sa, oa⟩
    rw [List.getElem?_map] at hx
    obtain ⟨y, hy, rfl⟩ := Option.map_eq_some_iff.mp hx
    have ny := nmn y (List.mem_of_getElem? hy)
    have il := (List.getElem?_eq_some_iff.mp hy).1
    walk_at "zz"
    refine ⟨d, _, rfl, by decide, da.src, fun rb Hb rb0 rb1 db => ?_⟩
    walk_at "zz"
    refine z_ite (fun h0 => ?_) (fun h0 => ?_)
    · have Db := da.trans db
      have l2b := Db.lst l2W
      walk_at "zz"
      show iList K _ _ _ _
      walk_at "zz"
      refine z_new (by simp) (fun pc Hc nc ec hc => ?_)
      refine z_cat (ec _ _ l2b) hc (by simp; omega) (fun pd Hd nd ed hd => ?_)
      walk_at "zz"
      refine ⟨pd, ns ++ [z], rfl, SqL.of (by rw [List.map_append]; exact hd), by rw [List.length_append]; simp; omega, fun ws lw pw sw nw => ?_⟩
      have ew : Same Hd (upd Hd lw (.lst (ws.map V.str))) := same_upd nw
      have hw : upd Hd lw (.lst (ws.map V.str)) lw = some (.lst (ws.map V.str)) := upd_same
      generalize upd Hd lw (.lst (ws.map V.str)) = Hw at ew hw ⊢
      have eW3 := ec.trans (ed.trans ew)
      have Dw := db.trans (Dd.of_same db.src eW3)
      have pww : ws.Perm ys := pw.trans ((List.perm_append_singleton z ns).trans pz)
      have upw := sorted_rise sw (pww.nodup_iff.mpr ndy)
      have lenw : ws.length = 6 := by rw [pww.length_eq, leny]
      have nmw : ∀ x ∈ ws, nmB x = true := fun x hx => nmy x (pww.mem_iff.mp hx)
      refine ⟨lw, rfl, ⟨_, SqL.of hw⟩, fun Dq nDq => lc_list (xs := ws.map V.str) (fun j H' => Dd d Hw H' ∧ ∃ os, H' Dq = some (.lst (os.map V.str)) ∧ os.Sublist (ws.take j) ∧ y ∉ os) ⟨(Dd.of_same Dw.src Same.rfl_).updN nDq, [], upd_same, List.nil_sublist _, by simp⟩ (fun j H' _ h => SqL.of (h.1.lst hw)) ?_ ?_⟩
      · rintro j x Hx hx ⟨dx, os, hD, so_, yo⟩
        rw [List.getElem?_map] at hx
        obtain ⟨o, ho, rfl⟩ := Option.map_eq_some_iff.mp hx
        have lo := so_.length_le
        rw [List.length_take] at lo
        refine ⟨rfl, ?_⟩
        walk_at "zz"
        refine z_neS ?_
        walk_at "zz"
        refine z_nite (fun hn => ?_) (fun hn => ?_)
        · walk_at "zz"
          refine ⟨d, _, rfl, by decide, dx.src, fun re He re0 re1 de => ?_⟩
          walk_at "zz"
          refine z_ite (fun h1 => ?_) (fun h1 => ?_)
          · walk_at "zz"
            have hDe := de.lst hD
            refine ⟨_, hDe, small1000 (by rw [List.length_map]; omega), (dx.trans de).updN nDq, os ++ [o], by rw [upd_same, List.map_append]; rfl, take_snoc ho so_, fun h => ?_⟩
            rcases List.mem_append.mp h with h | h
            · exact yo h
            · exact hn (List.mem_singleton.mp h).symm
          · exact ⟨dx.trans de, os, de.lst hD, take_up so_, yo⟩
        · exact ⟨dx, os, hD, take_up so_, yo⟩
      rintro Hx ⟨dx, os, hD, so_, yo⟩
      rw [List.length_map, List.take_of_length_le (Nat.le_refl _)] at so_
      have lo := so_.length_le
      have nmo : ∀ x ∈ os, nmB x = true := fun x hx => nmw x (so_.subset hx)
      walk_at "zz"
      refine z_tupleL hD (fun pf Hf nf ef hf => ?_)
      have Df := Dw.trans (dx.trans (Dd.of_same dx.src ef))
      have bf : Da Hf (.ref pf) (.tuple (os.map .str)) := .tup hf (DaAll.strs_ nmo)
      walk_at "zz"
      refine ⟨.inl ⟨rfl, _, SqL.of (Df.lst hRa)⟩, ?_⟩
      walk_at "zz"
      refine ⟨d, _, rfl, by decide, Df.src, fun rg Hg rg0 rg1 dg => ?_⟩
      have Dg := Df.trans dg
      walk_at "zz"
      show iRng1 _ _ _ _
      walk_at "zz"
      refine ⟨_, rfl, by omega, by omega, fun Dn nDn => ?_⟩
      rw [show ((m : Int)).toNat = m by omega]
      refine lc_range (lo := 0) (n := m) (fun i H' => Dd d Hg H' ∧ ∃ acc ps, H' Dn = some (.lst acc) ∧ DaAll H' acc ps ∧ ps.length = i ∧ ∀ x ∈ ps, ownD x = true) ⟨(Dd.of_same Dg.src Same.rfl_).updN nDn, [], [], upd_same, .nil, rfl, fun x hx => by simp at hx⟩ ?_ ?_
      · rintro i H6 hi ⟨d6, acc, ps, hD, ga, lp, pp⟩
        refine ⟨rfl, ?_⟩
        walk_at "zz"
        refine ⟨d, rfl, d6.src, fun n7 H7 far d7 => ?_⟩
        have k7 := KD.of_dd d7
        have hD7 := k7.l _ _ hD
        have la := ga.len
        refine ⟨acc, hD7, small1000 (by omega), (d6.trans d7).updN nDn, _, ps ++ [.int n7], upd_same, DaAll.app (DaAll.mvT (KT.updL hD7) (DaAll.mv k7 ga) (noLs_iff.mpr fun x hx => own_noL (pp x hx))) (.cons (.int n7) .nil), by rw [List.length_append, lp]; rfl, fun x hx => ?_⟩
        rcases List.mem_append.mp hx with hx | hx
        · exact pp x hx
        · rw [List.mem_singleton.mp hx]; exact far
      rintro H6 ⟨d6, acc6, ps, hD6, ga6, lp, pp⟩
      walk_at "zz"
      refine z_tupleL hD6 (fun p7 H7 n7 e7 h7 => ?_)
      have b7 : Da H7 (.ref p7) (.tuple ps) := .tup h7 (DaAll.mv (KD.of_same e7) ga6)
      have D67 := d6.trans (Dd.of_same d6.src e7)
      walk_at "zz"
      refine d_tup (.cons (Da.nm ny) (.cons (.int (1 + rg)) (.cons (.int 1) (.cons b7 (.cons (bf.mv ((KD.of_dd dg).trans (KD.of_dd D67))) .nil))))) (by simp) (fun p8 H8 e8 b8 => ?_)
      have D8 := (Dg.trans D67).trans (Dd.of_same D67.src e8)
      have hR8 := D8.lst hRa
      have lb := ga.len
      rw [List.length_cons] at lb
      have okN : entryD us.length (.tuple [.str y, .int (1 + rg), .int 1, .tuple ps, .tuple (os.map .str)]) = true := by
        show (nmB y && (decide (1 ≤ 1 + rg) && (decide ((1 : Int) ≤ 1) && (numsD (.tuple ps) && (decide (ps.length = us.length) && othersD y (.tuple (os.map .str))))))) = true
        rw [ny, decide_eq_true (show 1 ≤ 1 + rg by omega), decide_eq_true (show (1 : Int) ≤ 1 by decide), nums_of lp (by omega) (by omega) pp, decide_eq_true (show ps.length = us.length by omega), oth_strs nmo (rise_sub so_ upw) yo]
        rfl
      walk_at "zz"
      refine ⟨R, _, _, rfl, rfl, hR8, small1000 (by omega), ⟨_, _, _, _, _, _, rfl⟩, (da.trans D8).updN nR, rs ++ [_], _, upd_same, DaAll.app (DaAll.mvT (KT.updL hR8) (DaAll.mv (KD.of_dd D8) ga) (noLs_iff.mpr fun x hx => ?_)) (.cons (Da.mvT (KT.updL hR8) b8 (ent_noL okN)) .nil), by rw [List.length_append]; simp; omega, fun x hx => ?_, by rw [nms_snoc]; exact take_snoc hy sa, fun a b c u os' hx => ?_⟩
      · rcases List.mem_cons.mp hx with rfl | hx
        · exact ent_noL okW
        · exact ent_noL (pa x hx)
      · rcases List.mem_append.mp hx with hx | hx
        · exact pa x hx
        · rw [List.mem_singleton.mp hx]; exact okN
      · rcases List.mem_append.mp hx with hx | hx
        · exact oa a b c u os' hx
        · have := List.mem_singleton.mp hx
          cases this
          rw [List.length_map]
          omega
    · walk_at "zz"
      exact ⟨⟨_, _, _, _, _, _, rfl⟩, da.trans db, rs, bcc, db.lst hRa, DaAll.mv (KD.of_dd db) ga, by omega, pa, take_up sa, oa⟩
  rintro σ Ha ⟨⟨y7, y8, y9, y10, y14, y15, rfl⟩, da, rs, bcc2, hRa, ga, la, pa, sa, oa⟩
  rw [List.length_map, List.take_of_length_le (Nat.le_refl _)] at sa
  rw [List.length_map] at la
  have DA := DW.trans da
  walk_at "zz"
  refine z_tupleL (da.lst hLW) (fun pb Hb nb eb hb => ?_)
  have kb := (KD.of_dd da).trans (KD.of_same eb)
  have bA : Da Hb (.ref pb) (.tuple as) := .tup hb (DaAll.mv kb gAW)
  have gb := DaAll.mv (KD.of_same eb) ga
  have rHd : ∀ x ∈ (PyData.tuple [.str z, .int (1 + rl), .int (1 + rv), .tuple us, .tuple (as.map firstD)] :: rs), Headed x := fun x hx => by
    rcases List.mem_cons.mp hx with rfl | hx
    · exact ⟨_, _, rfl⟩
    · obtain ⟨y, l, v, us, os, rfl, _⟩ := entry_shape (pa x hx)
      exact ⟨_, _, rfl⟩
  obtain ⟨ts, rfl, ht, en⟩ := DaAll.txe gb rHd
  have ndz : (nmsD (PyData.tuple [.str z, .int (1 + rl), .int (1 + rv), .tuple us, .tuple (as.map firstD)] :: rs)).Nodup := by
    show (z :: nmsD rs).Nodup
    exact List.nodup_cons.mpr ⟨fun h => zno (sa.subset h), List.Sublist.nodup sa (rise_nd upn)⟩
  walk_at "zz"
  refine ⟨R, ts, rfl, SqL.of (eb _ _ hRa), by have := gb.len; rw [List.length_map, List.length_cons] at this; omega, ht, by rw [en]; exact ndz, fun us' pc pm' pw' npc => ?_⟩
  have ec : Same Hb (upd Hb pc (.lst (us'.map fun t => V.ref t.1))) := same_upd npc
  have hc : upd Hb pc (.lst (us'.map fun t => V.ref t.1)) pc = some (.lst (us'.map fun t => V.ref t.1)) := upd_same
  generalize upd Hb pc (.lst (us'.map fun t => V.ref t.1)) = Hc at ec hc ⊢
  obtain ⟨rs', pr', gr'⟩ := DaAll.perm (pm'.map fun t => V.ref t.1) gb
  have hr' : ∀ x ∈ rs', Headed x := fun x hx => rHd x (pr'.mem_iff.mp hx)
  have enr := txe_names gr' (fun t h => ht t (pm'.mem_iff.mp h)) hr'
  have upr : riseB (nmsD rs') = true := by rw [enr]; exact pw_rise pw'
  have entr : ∀ x ∈ rs', entryD us.length x = true := fun x hx => by
    rcases List.mem_cons.mp (pr'.mem_iff.mp hx) with rfl | hx
    · exact okW
    · exact pa x hx
  walk_at "zz"
  refine z_tupleL hc (fun pd Hd nd ed hd => ?_)
  have kcd := KD.of_same (ec.trans ed)
  have bR : Da Hd (.ref pd) (.tuple rs') := .tup hd (DaAll.mv kcd gr')
  have DD := DA.trans (Dd.of_same da.src (eb.trans (ec.trans ed)))
  walk_at "zz"
  refine d_tup (.cons (Da.nm nmz) (.cons (.int (1 + rl)) (.cons (.int (1 + rv)) (.cons (bU.mv (KD.of_dd DD)) (.cons (.tup (DD.tup hE) (DaAll.mv (KD.of_dd DD) gE)) (.cons (bA.mv kcd) (.cons bR .nil))))))) (by simp) (fun pf Hf ef bf => ?_)
  have lr := pr'.length_eq
  rw [List.length_cons] at lr
  refine q pf z (1 + rl) (1 + rv) us es as rs' Hf ⟨⟨nmz, numU, ?_, ?_, ?_, oth_of oE, oth_of oA, ?_, okW, ?_⟩, by omega, by omega, by omega, fun a b c u os hx => ?_⟩ nmz bf ?_
  · unfold allT
    rw [show isTupD (.tuple es) = true from rfl]
    exact List.all_eq_true.mpr pe
  · unfold accsD allT
    rw [show isTupD (.tuple as) = true from rfl, show lenD (.tuple us) = m from lu]
    exact List.all_eq_true.mpr pA
  · unfold rollD
    rw [show isTupD (.tuple rs') = true from rfl, show itD (.tuple rs') = rs' from rfl, show lenD (.tuple us) = us.length from rfl, List.all_eq_true.mpr entr]
    exact upr
  · refine List.all_eq_true.mpr fun x hx => decide_eq_true ?_
    rw [show knownD (.tuple es) = es.map firstD from rfl, map_names]
    have hx : x ∈ as.map firstD := hx
    obtain ⟨a, ha, rfl⟩ := List.mem_map.mp hx
    exact sA.subset (List.mem_map.mpr ⟨a, ha, rfl⟩)
  · refine List.any_eq_true.mpr ⟨_, pr'.mem_iff.mpr List.mem_cons_self, SeqAt.eqv_refl _ bW.lay⟩
  · rcases List.mem_cons.mp (pr'.mem_iff.mp hx) with h | h
    · cases h
      rw [List.length_map]
      omega
    · exact oa a b c u os h
  · have := DE.trans (DD.trans (Dd.of_same DD.src ef))
    exact this
def spRefused (Ps : List Addr) : Sp := fun vs H Q _ => ∃ (v : V) (d : PyData), vs = [v] ∧ Da H v d ∧ booksD d = false ∧ szD d ∧ TGs H Ps ∧ ∀ H2, Kc Ps H H2 → Q (.bl true) H2
theorem ok__law_refused {f C CB CS C1 C2 C3 C4 C5 : Addr} {Ps : List Addr} {fd : FuncData} (F : FnP K "_law_refused" s__law_refused f fd) (m_isinstance : mg "isinstance" = none) (m_ValueError : mg "ValueError" = none) (g_SumError : mg "SumError" = some (.ref CS)) (g_BadBooks : mg "BadBooks" = some (.ref CB)) (g_BadWeb : mg "BadWeb" = some (.ref C1)) (g_NoDeed : mg "NoDeed" = some (.ref C2)) (g_NoNear : mg "NoNear" = some (.ref C3)) (g_NoRow : mg "NoRow" = some (.ref C4)) (g_NoText : mg "NoText" = some (.ref C5))
    (exm : PySem.W.exmOne K (.ref CB) (.ref CB) = some true) (ec : ExcC K CB ∧ (∀ c ∈ [Value.ref CS, .type "ValueError"], PySem.W.kitOne K (.ref CB) c = some true) ∧ PySem.W.kitAny K (.ref CB) [.ref C1, .ref C2, .ref C3, .ref C4, .ref C5] = some false)
    (h_hand_of : HasX P w K mg base 18 "hand_of" ["books"] (spHandOf Ps C CB)) : FnOk P w K mg base CX0 19 f fd ["_law_thing"] (spRefused Ps) := by
  refine F.ok sc__law_refused (fun vs H Q E h => ?_) (fun cdv A outer s H vs Q E hr h => ?_)
  · obtain ⟨v, d, rfl, _⟩ := h; rfl
  obtain ⟨v, d, rfl, hv, bad, sz, hT, q⟩ := h
  obtain ⟨ex, yes, no⟩ := ec
  refine ⟨_, PSs.nox (pss_cons (ps_set (i := 1) sc__law_refused.nd rfl (.inl rfl) pe_bl)
  (pss_cons (ps_try_as (i := 2) rfl rfl sc__law_refused.nd rfl rfl ⟨rfl, by decide, .inl g_BadBooks⟩ takes0 (fun W pn xe tk _ => (pss_one (ps_expr (pe_callHX h_hand_of (hr.mono (by decide)) (by rfl) tk (pa_cons (pv 0) pa_nil))))) (fun a oe cls d pn hz hf => (pss_cons (ps_set (i := 1) sc__law_refused.nd rfl (.inl rfl) (pe_and (pe_callB (call_isX K hz hf) (by rfl) m_isinstance (by decide +kernel) (pa_cons (pv 2) (pa_cons (pe_glob (v := .ref _) (by rfl) g_SumError rfl) pa_nil))) (pe_one (pe_callB (call_isX K hz hf) (by rfl) m_isinstance (by decide +kernel) (pa_cons (pv 2) (pa_cons (pe_bltn (v := .ty "ValueError") (by rfl) m_ValueError (by decide +kernel) rfl) pa_nil))))))
  (pss_one (ps_set (i := 1) sc__law_refused.nd rfl (.inl rfl) (pe_and (pv 1) (pe_one (pe_not (pe_callB (call_isXT K hz hf) (by rfl) m_isinstance (by decide +kernel) (pa_cons (pv 2) (pa_cons (pe_tup (pa_cons (pe_glob (v := .ref _) (by rfl) g_BadWeb rfl) (pa_cons (pe_glob (v := .ref _) (by rfl) g_NoDeed rfl) (pa_cons (pe_glob (v := .ref _) (by rfl) g_NoNear rfl) (pa_cons (pe_glob (v := .ref _) (by rfl) g_NoRow rfl) (pa_cons (pe_glob (v := .ref _) (by rfl) g_NoText rfl) pa_nil)))))) pa_nil)))))))))))
  (pss_one (ps_ret (pv 1))))), ?_⟩
  walk_at "zz"
  refine z_callS ?_
  walk_at "zz"
  refine ⟨v, d, rfl, hv, sz, hT, .inl ⟨bad, fun H2 c2 => ?_⟩⟩
  refine ⟨true, exm, fun _ a ha => ?_, fun z => nomatch z⟩
  walk_at "zz"
  refine ⟨CB, rfl, rfl, ex, .ref CS, .ref CS, true, rfl, fun u r => by cases r; rfl, yes _ (by simp), ?_⟩
  walk_at "zz"
  refine ⟨CB, rfl, rfl, ex, .ty "ValueError", .type "ValueError", true, rfl, fun u r => by cases r; rfl, yes _ (by simp), ?_⟩
  walk_at "zz"
  refine z_new (by simp) (fun p3 H3 n3 e3 h3 => ?_)
  refine ⟨CB, p3, [C1, C2, C3, C4, C5], false, rfl, rfl, ex, rfl, h3, no, ?_⟩
  walk_at "zz"
  exact q _ (c2.trans (Kc.of_same c2.tg e3))
def elderD (z : Str) : PyData → PyData
  | .tuple [.str a, b, .int c, d, e] => .tuple [.str a, b, .int (c + if a = z then 1 else 0), d, e]
  | x => x
theorem elder_noL {n : Nat} {z : Str} {x : PyData} (h : entryD n x = true) : noL (elderD z x) = true := by
  have h1 := ent_noL h
  obtain ⟨y, l, v, us, os, rfl, _⟩ := entry_shape h
  exact h1
theorem acc_no {n : Nat} {ds : List PyData} {x : PyData} (hx : x ∈ ds) (h : accD n x = false) : accsD n (.tuple ds) = false := all_no hx h
def spSpoilt : Sp := fun vs H Q _ => ∃ (d : Addr) (v : V) (z : Str) (l ve : Int) (us es as rs : List PyData), vs = [.ref d, v] ∧ SrcD H d ∧ Da H v (.tuple (bkL z l ve us es as rs)) ∧ Good z l ve us es as rs ∧ ∀ (v' : V) (d' : PyData) (H' : Hp), Da H' v' d' → booksD d' = false → szD d' → Dd d H H' → Q v' H'
set_option maxHeartbeats 60000000 in
theorem ok__law_spoilt {f : Addr} {fd : FuncData} (F : FnP K "_law_spoilt" s__law_spoilt f fd) (m_len : mg "len" = none) (m_list : mg "list" = none) (m_tuple : mg "tuple" = none) (m_int : mg "int" = none) (h__law_draw : Has P w K mg base 2 "_law_draw" ["_law_draw_here", "_law_many"] spDrawD) (h__law_one : Has P w K mg base 3 "_law_one" ["_law_draw_here", "_law_some"] spOneD) (h__law_put : Has P w K mg base 1 "_law_put" ["_law_row_here", "_law_k", "_law_one_here"] spPut) (h__law_odd_name : Has P w K mg base 4 "_law_odd_name" ["_law_draw_here"] spOddN)
    (h__law_turned : Has P w K mg base 4 "_law_turned" ["_law_draw_here", "_law_row_here"] spTurned) (h__law_account_odd : Has P w K mg base 4 "_law_account_odd" ["_law_draw_here", "_law_one_here"] spAccOdd) (h__law_entry_odd : Has P w K mg base 5 "_law_entry_odd" ["_law_draw_here", "_law_one_here"] spEntOdd) : FnOk P w K mg base CX0 6 f fd ["_law_draw_here", "_law_books_here"] spSpoilt := by
  refine F.ok sc__law_spoilt (fun vs H Q E h => ?_) (fun cdv A outer s0 H vs Q E hr h => ?_)
  · obtain ⟨d, v, z, l, ve, us, es, as, rs, rfl, _⟩ := h; rfl
  obtain ⟨s, v, z, l, ve, us, es, as, rs, rfl, hs, hv, G, q⟩ := h
  obtain ⟨p, xs, rfl, hp, g⟩ := id hv.tupE
  rcases g with _ | ⟨a1, g⟩
  rcases g with _ | ⟨a2, g⟩
  rcases g with _ | ⟨a3, g⟩
  rcases g with _ | ⟨a4, g⟩
  rcases g with _ | ⟨a5, g⟩
  rcases g with _ | ⟨a6, g⟩
  rcases g with _ | ⟨a7, g⟩
  cases g
  obtain ⟨rfl, _, _⟩ := id a1.strE
  cases a2.intE
  cases a3.intE
  obtain ⟨pe, ex, rfl, hpe, ge⟩ := id a5.tupE
  obtain ⟨pr, rx, rfl, hpr, gr⟩ := id a7.tupE
  obtain ⟨u1, u3, _⟩ := G.un
  obtain ⟨l1, v1⟩ := G.lv
  have e10 := G.e10
  have a10 := G.a10
  have r10 := G.r10
  refine ⟨_, PSs.nox (pss_cons (ps_set (i := 2) sc__law_spoilt.nd rfl (.inl rfl) (pe_callH h__law_draw (hr.mono (by decide)) (by rfl) (pa_cons (pv 0) (pa_cons pe_int pa_nil))))
  (pss_cons (ps_asg (pv 1) (pg_tup rfl (pgs_cons (pg_name (i := 3) sc__law_spoilt.nd rfl (.inr rfl)) (pgs_cons (pg_name (i := 4) sc__law_spoilt.nd rfl (.inl rfl)) (pgs_cons (pg_name (i := 5) sc__law_spoilt.nd rfl (.inl rfl)) (pgs_cons (pg_name (i := 6) sc__law_spoilt.nd rfl (.inl rfl)) (pgs_cons (pg_name (i := 7) sc__law_spoilt.nd rfl (.inl rfl)) (pgs_cons (pg_name (i := 8) sc__law_spoilt.nd rfl (.inr rfl)) (pgs_cons (pg_name (i := 9) sc__law_spoilt.nd rfl (.inl rfl)) pgs_nil)))))))))
  (pss_cons (ps_if (pt_cmpR op_eq (pv 2) pe_int (nomark _))
    (pss_one (ps_ret (pe_callH h__law_one (hr.mono (by decide)) (by rfl) (pa_cons (pv 0) (pa_cons (pe_lst (pa_cons pe_non (pa_cons (pe_callTy (call_listE K) (by rfl) m_list (by decide +kernel) (pa_cons (pv 1) pa_nil)) (pa_cons (pe_slice (sl_tupE K) (pv 1) po_none (po_some (pe_un un_neg pe_int))) (pa_cons (pe_op (op_catE K) (pv 1) (pe_tup (pa_cons pe_int pa_nil))) (pa_cons (pe_tup pa_nil) (pa_cons pe_int (pa_cons pe_str pa_nil)))))))) pa_nil)))))
    pss_nil)
  (pss_cons (ps_if (pt_cmpR op_eq (pv 2) pe_int (nomark _))
    (pss_one (ps_ret (pe_callH h__law_put (hr.mono (by decide)) (by rfl) (pa_cons (pv 1) (pa_cons pe_int (pa_cons (pe_callH h__law_odd_name (hr.mono (by decide)) (by rfl) (pa_cons (pv 0) pa_nil)) pa_nil))))))
    pss_nil)
  (pss_cons (ps_if (pt_cmpR op_eq (pv 2) pe_int (nomark _))
    (pss_one (ps_ret (pe_callH h__law_put (hr.mono (by decide)) (by rfl) (pa_cons (pv 1) (pa_cons (pe_op op_add pe_int (pe_callH h__law_draw (hr.mono (by decide)) (by rfl) (pa_cons (pv 0) (pa_cons pe_int pa_nil)))) (pa_cons (pe_callH h__law_one (hr.mono (by decide)) (by rfl) (pa_cons (pv 0) (pa_cons (pe_lst (pa_cons pe_int (pa_cons (pe_un un_neg pe_int) (pa_cons pe_non (pa_cons pe_bl (pa_cons pe_str (pa_cons (pe_op op_add (pv 4) (pv 5)) pa_nil))))))) pa_nil))) pa_nil))))))
    pss_nil)
  (pss_cons (ps_if (pt_cmpR op_eq (pv 2) pe_int (nomark _))
    (pss_cons (ps_set (i := 10) sc__law_spoilt.nd rfl (.inl rfl) (pe_lst (pa_cons (pe_tup pa_nil) (pa_cons (pe_op (op_catE K) (pv 6) (pe_tup (pa_cons pe_int pa_nil))) (pa_cons (pe_callTy (call_listE K) (by rfl) m_list (by decide +kernel) (pa_cons (pv 6) pa_nil)) (pa_cons (pe_op (op_catE K) (pe_slice (sl_tupE K) (pv 6) po_none (po_some (pe_un un_neg pe_int))) (pe_tup (pa_cons pe_bl pa_nil))) (pa_cons (pe_op (op_repU K) (pe_tup (pa_cons pe_int pa_nil)) pe_int) (pa_cons pe_non pa_nil))))))))
  (pss_one (ps_ret (pe_callH h__law_put (hr.mono (by decide)) (by rfl) (pa_cons (pv 1) (pa_cons pe_int (pa_cons (pe_callH h__law_one (hr.mono (by decide)) (by rfl) (pa_cons (pv 0) (pa_cons (pv 10) pa_nil))) pa_nil)))))))
    pss_nil)
  (pss_cons (ps_if (PW.pt (pw_and (pt_cmpR op_eq (pv 2) pe_int (nomark _)) (pw_and1 (pt_cmpR (op_neDE K hr.units) (pv 7) (pe_tup pa_nil) (nomark _)))))
    (pss_cons (ps_set (i := 11) sc__law_spoilt.nd rfl (.inl rfl) (pe_callH h__law_one (hr.mono (by decide)) (by rfl) (pa_cons (pv 0) (pa_cons (pe_lst (pa_cons (pe_tup (pa_cons (pe_callH h__law_odd_name (hr.mono (by decide)) (by rfl) (pa_cons (pv 0) pa_nil)) (pa_cons pe_int pa_nil))) (pa_cons (pe_tup (pa_cons (pv 3) (pa_cons pe_int pa_nil))) (pa_cons (pe_tup (pa_cons (pe_ix (ix_tupE K) (pe_ix (ix_tupE K) (pv 7) pe_int (fun _ _ => rfl)) pe_int (fun _ _ => rfl)) (pa_cons (pe_un un_neg pe_int) pa_nil))) (pa_cons (pe_tup (pa_cons (pe_ix (ix_tupE K) (pe_ix (ix_tupE K) (pv 7) pe_int (fun _ _ => rfl)) pe_int (fun _ _ => rfl)) (pa_cons pe_bl pa_nil))) pa_nil))))) pa_nil))))
  (pss_one (ps_ret (pe_callH h__law_put (hr.mono (by decide)) (by rfl) (pa_cons (pv 1) (pa_cons pe_int (pa_cons (pe_callH h__law_one (hr.mono (by decide)) (by rfl) (pa_cons (pv 0) (pa_cons (pe_lst (pa_cons (pe_callH h__law_turned (hr.mono (by decide)) (by rfl) (pa_cons (pv 0) (pa_cons (pv 7) pa_nil))) (pa_cons (pe_op (op_catE K) (pe_tup (pa_cons (pv 11) pa_nil)) (pe_slice (sl_tupE K) (pv 7) (po_some pe_int) po_none)) pa_nil))) pa_nil))) pa_nil)))))))
    pss_nil)
  (pss_cons (ps_if (PW.pt (pw_and (pt_cmpR op_lt (pv 2) pe_int (nomark _)) (pw_and1 (pt_cmpR (op_neDE K hr.units) (pv 8) (pe_tup pa_nil) (nomark _)))))
    (pss_cons (ps_set (i := 12) sc__law_spoilt.nd rfl (.inr rfl) (pe_callH h__law_draw (hr.mono (by decide)) (by rfl) (pa_cons (pv 0) (pa_cons (pe_callB (call_lenE K) (by rfl) m_len (by decide +kernel) (pa_cons (pv 8) pa_nil)) pa_nil))))
  (pss_cons (ps_set (i := 11) sc__law_spoilt.nd rfl (.inl rfl) (pe_callH h__law_put (hr.mono (by decide)) (by rfl) (pa_cons (pv 8) (pa_cons (pv 12) (pa_cons (pe_callH h__law_account_odd (hr.mono (by decide)) (by rfl) (pa_cons (pv 0) (pa_cons (pe_ix (ix_tupE K) (pv 8) (pv 12) (fun _ _ => rfl)) pa_nil))) pa_nil)))))
  (pss_cons (ps_set (i := 13) sc__law_spoilt.nd rfl (.inl rfl) (pe_callTy (call_tupleE K) (by rfl) m_tuple (by decide +kernel) (pa_cons (pe_lc (own := [("_law_one_here", 16)]) (g := (gName 16)) (by rfl) sc__law_spoilt.nd (pi_tupE K (pv 7)) (blkOk_by (own := [("_law_one_here", 16)]) (N := ["_law_draw_here", "_law_books_here", "_law_k", "_law_name_here", "_law_life", "_law_version", "_law_numbers", "_law_eras", "_law_some", "_law_roll", "_law_odd", "_law_bad", "_law_j", "_law_lack", "_law_turned_here", "_law_elder", "_law_one_here"]) (sc := defScope s__law_spoilt) (by decide +kernel)) (fun _ _ _ _ _ => (pg_name (i := 16) sc__law_spoilt.nd rfl (.inl rfl))) (fun _ _ _ _ _ => (pts_one (pt_cmpR op_ne (pe_ix (ix_tupE K) (pv 16) pe_int (fun _ _ => rfl)) (pe_ix (ix_tupE K) (pe_ix (ix_tupE K) (pv 8) (pv 12) (fun _ _ => rfl)) pe_int (fun _ _ => rfl)) (nomark _)))) (fun _ _ _ _ _ => (pv 16))) pa_nil)))
  (pss_cons (ps_set (i := 14) sc__law_spoilt.nd rfl (.inl rfl) (pe_callH h__law_put (hr.mono (by decide)) (by rfl) (pa_cons (pv 1) (pa_cons pe_int (pa_cons (pe_callH h__law_turned (hr.mono (by decide)) (by rfl) (pa_cons (pv 0) (pa_cons (pv 8) pa_nil))) pa_nil)))))
  (pss_one (ps_ret (pe_callH h__law_one (hr.mono (by decide)) (by rfl) (pa_cons (pv 0) (pa_cons (pe_lst (pa_cons (pv 14) (pa_cons (pe_callH h__law_put (hr.mono (by decide)) (by rfl) (pa_cons (pv 1) (pa_cons pe_int (pa_cons (pv 11) pa_nil)))) (pa_cons (pe_callH h__law_put (hr.mono (by decide)) (by rfl) (pa_cons (pv 1) (pa_cons pe_int (pa_cons (pv 13) pa_nil)))) pa_nil)))) pa_nil)))))))))
    pss_nil)
  (pss_cons (ps_set (i := 12) sc__law_spoilt.nd rfl (.inr rfl) (pe_callH h__law_draw (hr.mono (by decide)) (by rfl) (pa_cons (pv 0) (pa_cons (pe_callB (call_lenE K) (by rfl) m_len (by decide +kernel) (pa_cons (pv 9) pa_nil)) pa_nil))))
  (pss_cons (ps_set (i := 13) sc__law_spoilt.nd rfl (.inl rfl) (pe_callTy (call_tupleE K) (by rfl) m_tuple (by decide +kernel) (pa_cons (pe_lc (own := [("_law_one_here", 16)]) (g := (gName 16)) (by rfl) sc__law_spoilt.nd (pi_tupE K (pv 9)) (blkOk_by (own := [("_law_one_here", 16)]) (N := ["_law_draw_here", "_law_books_here", "_law_k", "_law_name_here", "_law_life", "_law_version", "_law_numbers", "_law_eras", "_law_some", "_law_roll", "_law_odd", "_law_bad", "_law_j", "_law_lack", "_law_turned_here", "_law_elder", "_law_one_here"]) (sc := defScope s__law_spoilt) (by decide +kernel)) (fun _ _ _ _ _ => (pg_name (i := 16) sc__law_spoilt.nd rfl (.inl rfl))) (fun _ _ _ _ _ => (pts_one (pt_cmpR op_ne (pe_ix (ix_tupE K) (pv 16) pe_int (fun _ _ => rfl)) (pv 3) (nomark _)))) (fun _ _ _ _ _ => (pv 16))) pa_nil)))
  (pss_cons (ps_set (i := 11) sc__law_spoilt.nd rfl (.inl rfl) (pe_callH h__law_put (hr.mono (by decide)) (by rfl) (pa_cons (pv 9) (pa_cons (pv 12) (pa_cons (pe_callH h__law_entry_odd (hr.mono (by decide)) (by rfl) (pa_cons (pv 0) (pa_cons (pe_ix (ix_tupE K) (pv 9) (pv 12) (fun _ _ => rfl)) pa_nil))) pa_nil)))))
  (pss_cons (ps_set (i := 15) sc__law_spoilt.nd rfl (.inl rfl) (pe_callTy (call_tupleE K) (by rfl) m_tuple (by decide +kernel) (pa_cons (pe_lc (own := [("_law_one_here", 16)]) (g := (gName 16)) (by rfl) sc__law_spoilt.nd (pi_tupE K (pv 9)) (blkOk_by (own := [("_law_one_here", 16)]) (N := ["_law_draw_here", "_law_books_here", "_law_k", "_law_name_here", "_law_life", "_law_version", "_law_numbers", "_law_eras", "_law_some", "_law_roll", "_law_odd", "_law_bad", "_law_j", "_law_lack", "_law_turned_here", "_law_elder", "_law_one_here"]) (sc := defScope s__law_spoilt) (by decide +kernel)) (fun _ _ _ _ _ => (pg_name (i := 16) sc__law_spoilt.nd rfl (.inl rfl))) (fun _ _ _ _ _ => pts_nil) (fun _ _ _ _ _ => (pe_op (op_catE K) (pe_tup (pa_cons (pe_ix (ix_tupE K) (pv 16) pe_int (fun _ _ => rfl)) (pa_cons (pe_ix (ix_tupE K) (pv 16) pe_int (fun _ _ => rfl)) (pa_cons (pe_op op_add (pe_ix (ix_tupE K) (pv 16) pe_int (fun _ _ => rfl)) (pe_callTy call_intE (by rfl) m_int (by decide +kernel) (pa_cons (pe_cmpR op_eq (pe_ix (ix_tupE K) (pv 16) pe_int (fun _ _ => rfl)) (pv 3) (nomark _)) pa_nil))) pa_nil)))) (pe_slice (sl_tupE K) (pv 16) (po_some pe_int) po_none)))) pa_nil)))
  (pss_one (ps_ret (pe_callH h__law_put (hr.mono (by decide)) (by rfl) (pa_cons (pv 1) (pa_cons pe_int (pa_cons (pe_callH h__law_one (hr.mono (by decide)) (by rfl) (pa_cons (pv 0) (pa_cons (pe_lst (pa_cons (pe_callH h__law_turned (hr.mono (by decide)) (by rfl) (pa_cons (pv 0) (pa_cons (pv 9) pa_nil))) (pa_cons (pv 13) (pa_cons (pv 11) (pa_cons (pv 11) (pa_cons (pv 15) (pa_cons (pe_tup pa_nil) (pa_cons pe_non pa_nil)))))))) pa_nil))) pa_nil)))))))))))))))))), ?_⟩
  walk_at "zz"
  refine ⟨s, _, rfl, by decide, hs, fun r1 H1 r10 r11 d1 => ?_⟩
  obtain ⟨k, rfl⟩ : ∃ j : Nat, r1 = (j : Int) := ⟨r1.toNat, by omega⟩
  have k1 := KD.of_dd d1
  walk_at "zz"
  refine z_gTup (SqT.of (k1.t _ _ hp)) rfl ?_
  walk_at "zz"
  refine z_ite (fun h0 => ?_) (fun h0 => ?_)
  · walk_at "zz"
    refine d_list (hv.mv k1) (fun p2 H2 e2 b2 => ?_)
    walk_at "zz"
    refine d_sl ((hv.mv k1).mv (KD.of_same e2)) (fun p3 H3 e3 b3 => ?_)
    rw [cutL_last] at b3
    walk_at "zz"
    refine d_tup (.cons (.int 0) .nil) (by simp) (fun p4 H4 e4 b4 => ?_)
    refine d_cat ((hv.mv k1).mv (KD.of_same (e2.trans (e3.trans e4)))) b4 (by simp) (fun p5 H5 e5 b5 => ?_)
    walk_at "zz"
    refine d_tup .nil (by simp) (fun p6 H6 e6 b6 => ?_)
    walk_at "zz"
    have f5 := KD.of_same e6
    have f3 := (KD.of_same (e4.trans e5)).trans f5
    have f2 := (KD.of_same e3).trans f3
    have szs := G.sz
    refine d_menu (R := fun d => booksD d = false ∧ szD d) (.cons .non ⟨rfl, fun x hx => by cases hx⟩ (.cons (b2.mv f2) ⟨rfl, fun x hx => by cases hx⟩ (.cons (b3.mv f3) ⟨rfl, fun x hx => szs x ((List.dropLast_sublist _).subset hx)⟩ (.cons (b5.mv f5) ⟨rfl, fun x hx => by
      rcases List.mem_append.mp hx with hx | hx
      · exact szs x hx
      · rw [List.mem_singleton.mp hx]; exact Nat.zero_le _⟩ (.cons b6 ⟨rfl, fun x hx => by cases hx⟩ (.cons (.int 5) ⟨rfl, fun x hx => by cases hx⟩ (.cons (.str "books" (by decide +kernel) (by decide +kernel)) ⟨rfl, fun x hx => by cases hx⟩ .nil))))))) (by simp) (fun pa Ha ea hha aa => ?_)
    walk_at "zz"
    have fall := e2.trans (e3.trans (e4.trans (e5.trans (e6.trans ea))))
    refine d_one (d1.src.same fall) hha aa (by simp) (by simp) (fun vb db Hb ab rb ddb => ?_)
    exact q _ _ Hb ab rb.1 rb.2 (d1.trans ((Dd.of_same d1.src fall).trans ddb))
  · walk_at "zz"
    refine z_ite (fun h1 => ?_) (fun h1 => ?_)
    · walk_at "zz"
      refine ⟨s, rfl, d1.src, fun v2 e2 H2 b2 no2 le2 d2 => ?_⟩
      have D2 := d1.trans d2
      walk_at "zz"
      refine ⟨_, _, _, 0, _, rfl, hv.mv (KD.of_dd D2), b2, by simp, fun p3 H3 e3 b3 => ?_⟩
      exact q _ _ H3 b3 (G.no0 no2) (sz_put G.sz (by omega)) (D2.trans (Dd.of_same D2.src e3))
    · walk_at "zz"
      refine z_ite (fun h2 => ?_) (fun h2 => ?_)
      · walk_at "zz"
        refine ⟨s, _, rfl, by decide, d1.src, fun r2 H2 r20 r21 d2 => ?_⟩
        obtain ⟨j, hj⟩ : ∃ j : Nat, 1 + r2 = (j : Int) := ⟨(1 + r2).toNat, by omega⟩
        have D2 := d1.trans d2
        walk_at "zz"
        refine d_menu (R := fun d => (countD 1 d = false ∨ ∃ a, d = .int a ∧ a ≠ l ∧ a ≠ ve) ∧ (itD d).length ≤ 1000) (.cons (.int 0) ⟨.inl rfl, Nat.zero_le _⟩ (.cons (.int (-1)) ⟨.inl rfl, Nat.zero_le _⟩ (.cons .non ⟨.inl rfl, Nat.zero_le _⟩ (.cons (.bl true) ⟨.inl rfl, Nat.zero_le _⟩ (.cons (.str "1" (by decide +kernel) (by decide +kernel)) ⟨.inl rfl, Nat.zero_le _⟩ (.cons (.int (l + ve)) ⟨.inr ⟨_, rfl, by omega, by omega⟩, Nat.zero_le _⟩ .nil)))))) (by simp) (fun pa Ha ea hha aa => ?_)
        walk_at "zz"
        refine d_one (D2.src.same ea) hha aa (by simp) (by simp) (fun vb db Hb ab rb ddb => ?_)
        have Db := D2.trans ((Dd.of_same D2.src ea).trans ddb)
        walk_at "zz"
        rw [hj]
        refine ⟨_, _, _, j, _, rfl, hv.mv (KD.of_dd Db), ab, by simp, fun pc Hc ec ac => ?_⟩
        refine q _ _ Hc ac ?_ (sz_put G.sz rb.2) (Db.trans (Dd.of_same Db.src ec))
        rcases (show j = 1 ∨ j = 2 by omega) with rfl | rfl
        · exact G.no1 (rb.1.imp id fun ⟨a, e, n, _⟩ => ⟨a, e, n⟩)
        · exact G.no2 (rb.1.imp id fun ⟨a, e, _, n⟩ => ⟨a, e, n⟩)
      · walk_at "zz"
        refine z_ite (fun h3 => ?_) (fun h3 => ?_)
        · walk_at "zz"
          have c4 := a4.mv k1
          refine d_tup .nil (by simp) (fun p2 H2 e2 b2 => ?_)
          walk_at "zz"
          refine d_tup (.cons (.int 0) .nil) (by simp) (fun p3 H3 e3 b3 => ?_)
          refine d_cat (c4.mv (KD.of_same (e2.trans e3))) b3 (by simp only [List.length_cons, List.length_nil]; omega) (fun p4 H4 e4 b4 => ?_)
          walk_at "zz"
          refine d_list (c4.mv (KD.of_same (e2.trans (e3.trans e4)))) (fun p5 H5 e5 b5 => ?_)
          walk_at "zz"
          refine d_sl (c4.mv (KD.of_same (e2.trans (e3.trans (e4.trans e5))))) (fun p6 H6 e6 b6 => ?_)
          rw [cutL_last] at b6
          walk_at "zz"
          refine d_tup (.cons (.bl true) .nil) (by simp) (fun p7 H7 e7 b7 => ?_)
          refine d_cat (b6.mv (KD.of_same e7)) b7 (by simp only [List.length_dropLast, List.length_cons, List.length_nil]; omega) (fun p8 H8 e8 b8 => ?_)
          walk_at "zz"
          refine d_tup (.cons (.int 0) .nil) (by simp) (fun p9 H9 e9 b9 => ?_)
          refine d_rep (k := 4) b9 (by decide) (by decide) (fun pa Ha ea ba => ?_)
          walk_at "zz"
          have f8 := KD.of_same (e9.trans ea)
          have f5 := (KD.of_same (e6.trans (e7.trans e8))).trans f8
          have f4 := (KD.of_same e5).trans f5
          have f2 := (KD.of_same (e3.trans e4)).trans f4
          refine d_menu (R := fun d => (numsD d = false ∨ lenD d ≠ us.length) ∧ (itD d).length ≤ 1000) (.cons (b2.mv f2) ⟨.inl rfl, Nat.zero_le _⟩ (.cons (b4.mv f4) ⟨.inr (by show (us ++ _).length ≠ _; rw [List.length_append]; simp), by show (us ++ _).length ≤ _; rw [List.length_append]; simp; omega⟩ (.cons (b5.mv f5) ⟨.inl rfl, Nat.zero_le _⟩
            (.cons (b8.mv f8) ⟨.inl (nums_no (x := .bool true) (by simp) rfl), by show (us.dropLast ++ _).length ≤ _; rw [List.length_append, List.length_dropLast]; simp; omega⟩ (.cons ba ⟨.inl (no_of fun h => by have := (nums_len h).2.1; rw [List.length_replicate] at this; omega), by show (List.replicate 4 _).length ≤ _; rw [List.length_replicate]; decide⟩ (.cons .non ⟨.inl rfl, Nat.zero_le _⟩ .nil)))))) (by simp) (fun pb Hb eb hb ab => ?_)
          walk_at "zz"
          have fall := e2.trans (e3.trans (e4.trans (e5.trans (e6.trans (e7.trans (e8.trans (e9.trans (ea.trans eb))))))))
          refine d_one (d1.src.same fall) hb ab (by simp) (by simp) (fun vc dc Hc ac rc ddc => ?_)
          have Dc := d1.trans ((Dd.of_same d1.src fall).trans ddc)
          walk_at "zz"
          refine ⟨_, _, _, 3, _, rfl, hv.mv (KD.of_dd Dc), ac, by simp, fun pe He ee ae => ?_⟩
          exact q _ _ He ae (G.no3 rc.1) (sz_put G.sz rc.2) (Dc.trans (Dd.of_same Dc.src ee))
        · walk_at "zy"
          refine cutT (fun b H' => Same H1 H' ∧ b = decide (k = 4 ∧ es ≠ [])) (fun Q' hQ' => ?_) ?_
          · walk_at "zz"
            refine z_ite (fun h4 => ?_) (fun h4 => ?_)
            · walk_at "zz"
              refine d_tup .nil (by simp) (fun p2 H2 e2 b2 => ?_)
              refine z_neNil (a5.mv (k1.trans (KD.of_same e2))) b2 (Nat.le_trans (dep_tup fun x hx => dep_era (G.era x hx)) (by decide)) ?_
              walk_at "zz"
              refine hQ' _ _ ⟨e2, ?_⟩
              by_cases hn : es = []
              · rw [decide_eq_true hn, decide_eq_false (fun h => h.2 hn)]; rfl
              · rw [decide_eq_false hn, decide_eq_true ⟨by omega, hn⟩]; rfl
            · exact hQ' _ _ ⟨Same.rfl_, (decide_eq_false (fun h => h4 (by omega))).symm⟩
          rintro b H2 ⟨e2, rfl⟩
          have D2 := d1.trans (Dd.of_same d1.src e2)
          refine z_ite (fun h4 => ?_) (fun h4 => ?_)
          · obtain ⟨rfl, hne⟩ := h4
            obtain ⟨x0, hx0⟩ : ∃ x, es[0]? = some x := ⟨es[0]'(List.length_pos_iff.mpr hne), List.getElem?_eq_getElem _⟩
            obtain ⟨z0, c0, rfl, nm0, _⟩ := era_shape (G.era x0 (List.mem_of_getElem? hx0))
            walk_at "zz"
            refine ⟨s, rfl, D2.src, fun v3 o3 H3 b3 no3 _ d3 => ?_⟩
            have D3 := D2.trans d3
            walk_at "zz"
            refine d_tup (.cons b3 (.cons (.int 0) .nil)) (by simp) (fun p4 H4 e4 b4 => ?_)
            walk_at "zz"
            refine d_tup (.cons (a1.mv ((KD.of_dd D3).trans (KD.of_same e4))) (.cons (.int 0) .nil)) (by simp) (fun p5 H5 e5 b5 => ?_)
            walk_at "zz"
            have c5 := a5.mv ((KD.of_dd D3).trans (KD.of_same (e4.trans e5)))
            refine d_ix (i := 0) c5 hx0 (fun w6 b6 => ?_)
            walk_at "zz"
            refine d_ix (i := 0) b6 rfl (fun w7 b7 => ?_)
            walk_at "zz"
            refine d_tup (.cons b7 (.cons (.int (-1)) .nil)) (by simp) (fun p8 H8 e8 b8 => ?_)
            walk_at "zz"
            refine d_ix (i := 0) (c5.mv (KD.of_same e8)) hx0 (fun w9 b9 => ?_)
            walk_at "zz"
            refine d_ix (i := 0) b9 rfl (fun wa ba => ?_)
            walk_at "zz"
            refine d_tup (.cons ba (.cons (.bl true) .nil)) (by simp) (fun pb Hb eb bb => ?_)
            walk_at "zz"
            have f8 := KD.of_same eb
            have f5 := (KD.of_same e8).trans f8
            have f4 := (KD.of_same e5).trans f5
            refine d_menu (R := fun d => eraD d = false ∨ strD (firstD d) = z) (.cons (b4.mv f4) (.inl (by show (nameD o3 && _) = false; rw [no3]; rfl)) (.cons (b5.mv f5) (.inr rfl) (.cons (b8.mv f8) (.inl (by show (nameD (.str z0) && countD 0 (.int (-1))) = false; rw [show countD 0 (.int (-1)) = false from rfl]; simp)) (.cons bb (.inl (by show (nameD (.str z0) && countD 0 (.bool true)) = false; rw [show countD 0 (.bool true) = false from rfl]; simp)) .nil)))) (by simp) (fun pc Hc ec hc ac => ?_)
            walk_at "zz"
            have fall := e4.trans (e5.trans (e8.trans (eb.trans ec)))
            refine d_one (D3.src.same fall) hc ac (by simp) (by simp) (fun vd dd Hd ad rd ddd => ?_)
            have Dd' := D3.trans ((Dd.of_same D3.src fall).trans ddd)
            walk_at "zz"
            refine ⟨s, _, es, 2, rfl, Dd'.src, a5.mv (KD.of_dd Dd'), G.eR, by decide, by decide, List.length_pos_iff.mpr hne, fun vt dt Ht bt tt ddt => ?_⟩
            have De := Dd'.trans ddt
            walk_at "zz"
            refine d_tup (.cons (ad.mv (KD.of_dd ddt)) .nil) (by simp) (fun pf Hf ef bf => ?_)
            walk_at "zz"
            refine d_sl (a5.mv ((KD.of_dd De).trans (KD.of_same ef))) (fun pg Hg eg bg => ?_)
            rw [show (1 : Int) = ((1 : Nat) : Int) from rfl, cutL_frm] at bg
            refine d_cat (bf.mv (KD.of_same eg)) bg (by rw [List.length_drop]; simp; omega) (fun ph Hh eh bh => ?_)
            walk_at "zz"
            have zz1 : booksD (.tuple (putD (bkL z l ve us es as rs) 4 (.tuple ([dd] ++ es.drop 1)))) = false := G.no4 (rd.elim (fun h => .inl (all_no (x := dd) (by simp) h)) fun h => .inr (.inl ⟨dd, by simp [itD], h⟩))
            refine d_menu (R := fun d => booksD (.tuple (putD (bkL z l ve us es as rs) 4 d)) = false ∧ (itD d).length ≤ 1000) (.cons (bt.mv (KD.of_same (ef.trans (eg.trans eh)))) ⟨G.t4 tt, tt.len⟩ (.cons bh ⟨zz1, by show ([dd] ++ es.drop 1).length ≤ _; rw [List.length_append, List.length_drop]; simp; omega⟩ .nil)) (by simp) (fun pi Hi ei hi ai => ?_)
            walk_at "zz"
            have gall := ef.trans (eg.trans (eh.trans ei))
            refine d_one (De.src.same gall) hi ai (by simp) (by simp) (fun vj dj Hj aj rj ddj => ?_)
            have Dj := De.trans ((Dd.of_same De.src gall).trans ddj)
            walk_at "zz"
            refine ⟨_, _, _, 4, _, rfl, hv.mv (KD.of_dd Dj), aj, by simp, fun pk Hk ek ak => ?_⟩
            exact q _ _ Hk ak rj.1 (sz_put G.sz rj.2) (Dj.trans (Dd.of_same Dj.src ek))
          · walk_at "zy"
            refine cutT (fun b H' => Same H2 H' ∧ b = decide (k < 7 ∧ as ≠ [])) (fun Q' hQ' => ?_) ?_
            · walk_at "zz"
              refine z_ite (fun h7 => ?_) (fun h7 => ?_)
              · walk_at "zz"
                refine d_tup .nil (by simp) (fun p3 H3 e3 b3 => ?_)
                refine z_neNil (a6.mv ((KD.of_dd D2).trans (KD.of_same e3))) b3 (Nat.le_trans (dep_tup fun x hx => dep_acc (G.acc x hx)) (by decide)) ?_
                walk_at "zz"
                refine hQ' _ _ ⟨e3, ?_⟩
                by_cases hn : as = []
                · rw [decide_eq_true hn, decide_eq_false (fun h => h.2 hn)]; rfl
                · rw [decide_eq_false hn, decide_eq_true ⟨by omega, hn⟩]; rfl
              · exact hQ' _ _ ⟨Same.rfl_, (decide_eq_false (fun h => h7 (by omega))).symm⟩
            rintro b H3 ⟨e3, rfl⟩
            have D3 := D2.trans (Dd.of_same D2.src e3)
            refine z_ite (fun h7 => ?_) (fun h7 => ?_)
            · have hne := h7.2
              have apos := List.length_pos_iff.mpr hne
              walk_at "zz"
              refine d_len (a6.mv (KD.of_dd D3)) ?_
              walk_at "zz"
              refine ⟨s, _, rfl, by omega, D3.src, fun r4 H4 r40 r41 d4 => ?_⟩
              obtain ⟨j, rfl⟩ : ∃ j : Nat, r4 = (j : Int) := ⟨r4.toNat, by omega⟩
              have D4 := D3.trans d4
              obtain ⟨x, hx⟩ : ∃ x, as[j]? = some x := ⟨_, List.getElem?_eq_getElem (by omega)⟩
              have mx := List.mem_of_getElem? hx
              walk_at "zz"
              refine d_ix (a6.mv (KD.of_dd D4)) hx (fun w5 b5 => ?_)
              walk_at "zz"
              refine ⟨s, w5, x, us.length + 1, rfl, D4.src, b5, G.acc x mx, by omega, by omega, fun v6 d6 H6 b6 no6 dd6 => ?_⟩
              have D6 := D4.trans dd6
              walk_at "zz"
              refine ⟨_, _, _, j, _, rfl, a6.mv (KD.of_dd D6), b6, by omega, fun p7 H7 e7 b7 => ?_⟩
              have D7 := D6.trans (Dd.of_same D6.src e7)
              have k7 := KD.of_dd D7
              obtain ⟨zx, xs1, ex1, _⟩ := G.aR.hd x mx
              subst ex1
              walk_at "zz"
              refine ⟨_, rfl, pe, rfl, ⟨_, SqT.of (k7.t _ _ hpe)⟩, fun Dl nD => lc_tup (xs := ex) (fun i H' => Same H7 H' ∧ ∃ acc, H' Dl = some (.lst acc) ∧ DaAll H7 acc ((es.take i).filter fun y => !decide (strD (firstD y) = zx))) ⟨same_upd nD, [], upd_same, .nil⟩ (fun i H' _ h => SqT.of (h.1 _ _ (k7.t _ _ hpe))) ?_ ?_⟩
              · rintro i y H8 hy ⟨e8, acc, hD, ga⟩
                obtain ⟨dy, hdy, by_⟩ := (DaAll.mv k7 ge).get hy
                obtain ⟨zy, cy, rfl, _⟩ := era_shape (G.era dy (List.mem_of_getElem? hdy))
                refine ⟨rfl, ?_⟩
                walk_at "zz"
                refine d_ix (i := 0) (by_.mv (KD.of_same e8)) rfl (fun w9 b9 => ?_)
                obtain ⟨rfl, _, _⟩ := b9.strE
                walk_at "zz"
                refine d_ix (a6.mv (k7.trans (KD.of_same e8))) hx (fun wa ba => ?_)
                walk_at "zz"
                refine d_ix (i := 0) ba rfl (fun wb bb => ?_)
                obtain ⟨rfl, _, _⟩ := bb.strE
                refine z_neS ?_
                walk_at "zz"
                have la := ga.len
                have lf := List.length_filter_le (fun y => !decide (strD (firstD y) = zx)) (es.take i)
                rw [List.length_take] at lf
                refine z_nite (fun hn => ?_) (fun hn => ?_)
                · walk_at "zz"
                  refine ⟨acc, hD, small1000 (by omega), fun b o hb => by rw [upd_ne (ne_of_none hb nD)]; exact e8 _ _ hb, _, upd_same, ?_⟩
                  rw [List.take_add_one, hdy, List.filter_append]
                  refine DaAll.app ga ?_
                  have : List.filter (fun y => !decide (strD (firstD y) = zx)) (some (PyData.tuple [PyData.str zy, PyData.int cy])).toList = [PyData.tuple [PyData.str zy, PyData.int cy]] := List.filter_cons_of_pos (by show (!decide (zy = zx)) = true; rw [decide_eq_false hn]; rfl)
                  rw [this]
                  exact .cons by_ .nil
                · refine ⟨e8, acc, hD, ?_⟩
                  rw [List.take_add_one, hdy, List.filter_append]
                  have : List.filter (fun y => !decide (strD (firstD y) = zx)) (some (PyData.tuple [PyData.str zy, PyData.int cy])).toList = [] := List.filter_cons_of_neg (by show ¬ (!decide (zy = zx)) = true; rw [decide_eq_true hn]; decide)
                  rw [this, List.append_nil]
                  exact ga
              · rintro H8 ⟨e8, acc, hD, ga⟩
                rw [List.take_of_length_le (by rw [ge.len]; exact Nat.le_refl _)] at ga
                walk_at "zz"
                refine z_tupleL hD (fun p9 H9 n9 e9 h9 => ?_)
                have b9 : Da H9 (.ref p9) (.tuple (es.filter fun y => !decide (strD (firstD y) = zx))) := .tup h9 (DaAll.mv (KD.of_same (e8.trans e9)) ga)
                have D9 := D7.trans (Dd.of_same D7.src (e8.trans e9))
                walk_at "zz"
                refine ⟨s, _, as, 6, rfl, D9.src, a6.mv (KD.of_dd D9), G.aR, by decide, by decide, apos, fun vt dt Ht bt tt ddt => ?_⟩
                have Dt := D9.trans ddt
                walk_at "zz"
                refine ⟨_, _, _, 5, _, rfl, hv.mv (KD.of_dd Dt), bt, by simp, fun pu Hu eu bu => ?_⟩
                have kt := KD.of_dd Dt
                have ku := KD.of_same eu
                walk_at "zz"
                refine ⟨_, _, _, 5, _, rfl, hv.mv (kt.trans ku), b7.mv (((KD.of_same (e8.trans e9)).trans (KD.of_dd ddt)).trans ku), by simp, fun pw Hw ew bw => ?_⟩
                have kw := KD.of_same ew
                walk_at "zz"
                refine ⟨_, _, _, 4, _, rfl, hv.mv ((kt.trans ku).trans kw), b9.mv (((KD.of_dd ddt).trans ku).trans kw), by simp, fun py Hy ey byy => ?_⟩
                have ky := KD.of_same ey
                walk_at "zz"
                have lf := List.length_filter_le (fun y => !decide (strD (firstD y) = zx)) es
                refine d_menu (R := fun d => booksD d = false ∧ szD d) (.cons (bu.mv (kw.trans ky)) ⟨G.t5 tt, sz_put G.sz tt.len⟩ (.cons (bw.mv ky) ⟨G.no5 (.inl (acc_no put_mem no6)), sz_put G.sz (by have := put_len (ds := as) (k := j) (e := d6); show (putD as j d6).length ≤ _; omega)⟩ (.cons byy ⟨G.no4 (.inr (.inr (.inr ⟨_, mx, fun y hy e => by
                  have := (List.mem_filter.mp hy).2
                  rw [decide_eq_true (show strD (firstD y) = zx from e.symm)] at this
                  cases this⟩))), sz_put G.sz (by show (es.filter _).length ≤ _; omega)⟩ .nil))) (by simp) (fun pi Hi ei hi ai => ?_)
                walk_at "zz"
                have gall := eu.trans (ew.trans (ey.trans ei))
                refine d_one (Dt.src.same gall) hi ai (by simp) (by simp) (fun vj dj Hj aj rj ddj => ?_)
                exact q _ _ Hj aj rj.1 rj.2 (Dt.trans ((Dd.of_same Dt.src gall).trans ddj))
            · obtain ⟨ou, ot, own⟩ := G.own
              have rpos := List.length_pos_of_mem own
              walk_at "zz"
              refine d_len (a7.mv (KD.of_dd D3)) ?_
              walk_at "zz"
              refine ⟨s, _, rfl, by omega, D3.src, fun r4 H4 r40 r41 d4 => ?_⟩
              obtain ⟨j, rfl⟩ : ∃ j : Nat, r4 = (j : Int) := ⟨r4.toNat, by omega⟩
              have D4 := D3.trans d4
              have k4 := KD.of_dd D4
              obtain ⟨x, hx⟩ : ∃ x, rs[j]? = some x := ⟨_, List.getElem?_eq_getElem (by omega)⟩
              have mx := List.mem_of_getElem? hx
              walk_at "zz"
              refine ⟨_, rfl, pr, rfl, ⟨_, SqT.of (k4.t _ _ hpr)⟩, fun Dl nD => lc_tup (xs := rx) (fun i H' => Same H4 H' ∧ ∃ acc, H' Dl = some (.lst acc) ∧ DaAll H4 acc ((rs.take i).filter fun y => !decide (strD (firstD y) = z))) ⟨same_upd nD, [], upd_same, .nil⟩ (fun i H' _ h => SqT.of (h.1 _ _ (k4.t _ _ hpr))) ?_ ?_⟩
              · rintro i y H8 hy ⟨e8, acc, hD, ga⟩
                obtain ⟨dy, hdy, by_⟩ := (DaAll.mv k4 gr).get hy
                obtain ⟨zy, xs1, rfl, _⟩ := G.rR.hd dy (List.mem_of_getElem? hdy)
                refine ⟨rfl, ?_⟩
                walk_at "zz"
                refine d_ix (i := 0) (by_.mv (KD.of_same e8)) rfl (fun w9 b9 => ?_)
                obtain ⟨rfl, _, _⟩ := b9.strE
                walk_at "zz"
                refine z_neS ?_
                walk_at "zz"
                have la := ga.len
                have lf := List.length_filter_le (fun y => !decide (strD (firstD y) = z)) (rs.take i)
                rw [List.length_take] at lf
                refine z_nite (fun hn => ?_) (fun hn => ?_)
                · walk_at "zz"
                  refine ⟨acc, hD, small1000 (by omega), fun b o hb => by rw [upd_ne (ne_of_none hb nD)]; exact e8 _ _ hb, _, upd_same, ?_⟩
                  rw [List.take_add_one, hdy, List.filter_append]
                  refine DaAll.app ga ?_
                  have : List.filter (fun y => !decide (strD (firstD y) = z)) (some (PyData.tuple (PyData.str zy :: xs1))).toList = [PyData.tuple (PyData.str zy :: xs1)] := List.filter_cons_of_pos (by show (!decide (zy = z)) = true; rw [decide_eq_false hn]; rfl)
                  rw [this]
                  exact .cons by_ .nil
                · refine ⟨e8, acc, hD, ?_⟩
                  rw [List.take_add_one, hdy, List.filter_append]
                  have : List.filter (fun y => !decide (strD (firstD y) = z)) (some (PyData.tuple (PyData.str zy :: xs1))).toList = [] := List.filter_cons_of_neg (by show ¬ (!decide (zy = z)) = true; rw [decide_eq_true hn]; decide)
                  rw [this, List.append_nil]
                  exact ga
              · rintro H5 ⟨e5, acc, hD, ga⟩
                rw [List.take_of_length_le (by rw [gr.len]; exact Nat.le_refl _)] at ga
                walk_at "zz"
                refine z_tupleL hD (fun p6 H6 n6 e6 h6 => ?_)
                have b6 : Da H6 (.ref p6) (.tuple (rs.filter fun y => !decide (strD (firstD y) = z))) := .tup h6 (DaAll.mv (KD.of_same (e5.trans e6)) ga)
                have D6 := D4.trans (Dd.of_same D4.src (e5.trans e6))
                walk_at "zz"
                refine d_ix (a7.mv (KD.of_dd D6)) hx (fun w7 b7 => ?_)
                walk_at "zz"
                refine ⟨s, w7, x, us.length, rfl, D6.src, b7, G.ent x mx, fun z' l' v' u' os' e => G.o10 z' l' v' u' os' (e ▸ mx), fun v8 d8 H8 b8 no8 dd8 => ?_⟩
                have D8 := D6.trans dd8
                walk_at "zz"
                refine ⟨_, _, _, j, _, rfl, a7.mv (KD.of_dd D8), b8, by omega, fun p9 H9 e9 b9 => ?_⟩
                have D9 := D8.trans (Dd.of_same D8.src e9)
                have k9 := KD.of_dd D9
                have c6 := b6.mv ((KD.of_dd dd8).trans (KD.of_same e9))
                walk_at "zz"
                refine ⟨_, rfl, pr, rfl, ⟨_, SqT.of (k9.t _ _ hpr)⟩, fun Dl nD => lc_tup (xs := rx) (fun i H' => Same H9 H' ∧ ∃ acc, H' Dl = some (.lst acc) ∧ DaAll H' acc ((rs.take i).map (elderD z))) ⟨same_upd nD, [], upd_same, .nil⟩ (fun i H' _ h => SqT.of (h.1 _ _ (k9.t _ _ hpr))) ?_ ?_⟩
                · rintro i y Ha hy ⟨ea, acc, hD, ga⟩
                  obtain ⟨dy, hdy, by_⟩ := (DaAll.mv (k9.trans (KD.of_same ea)) gr).get hy
                  have my := List.mem_of_getElem? hdy
                  have nl := elder_noL (z := z) (G.ent dy my)
                  obtain ⟨y0, l0, v0, us0, os0, rfl, _⟩ := entry_shape (G.ent dy my)
                  refine ⟨rfl, ?_⟩
                  walk_at "zz"
                  refine d_ix (i := 0) by_ rfl (fun w1 t1 => ?_)
                  obtain ⟨rfl, ls, os⟩ := id t1.strE
                  walk_at "zz"
                  refine d_ix (i := 1) by_ rfl (fun w2 t2 => ?_)
                  cases t2.intE
                  walk_at "zz"
                  refine d_ix (i := 2) by_ rfl (fun w3 t3 => ?_)
                  cases t3.intE
                  walk_at "zz"
                  refine d_ix (i := 0) by_ rfl (fun w4 t4 => ?_)
                  obtain ⟨rfl, _, _⟩ := t4.strE
                  walk_at "zz"
                  refine z_eqS ?_
                  walk_at "zz"
                  refine d_tup (.cons t1 (.cons (.int _) (.cons (.int _) .nil))) (by simp) (fun pb Hb eb bb => ?_)
                  walk_at "zz"
                  refine d_sl (by_.mv (KD.of_same eb)) (fun pc Hc ec bc => ?_)
                  rw [show (3 : Int) = ((3 : Nat) : Int) from rfl, cutL_frm] at bc
                  refine d_cat (bb.mv (KD.of_same ec)) bc (by simp) (fun pd Hd ed bd => ?_)
                  have ebd := eb.trans (ec.trans ed)
                  have la := ga.len
                  rw [List.length_map, List.length_take] at la
                  have hDd := ebd _ _ hD
                  have ev : (if decide (y0 = z) = true then (1 : Int) else 0) = if y0 = z then 1 else 0 := by by_cases h : y0 = z <;> simp [h]
                  refine ⟨acc, hDd, small1000 (by omega), fun b o hb => by rw [upd_ne (ne_of_none hb nD)]; exact ebd _ _ (ea _ _ hb), _, upd_same, ?_⟩
                  rw [List.take_add_one, hdy, List.map_append]
                  refine DaAll.app (DaAll.mvT (KT.updL hDd) (DaAll.mv (KD.of_same ebd) ga) (noLs_iff.mpr fun d hd => ?_)) (.cons ?_ .nil)
                  · obtain ⟨d0, hd0, rfl⟩ := List.mem_map.mp hd
                    exact elder_noL (G.ent d0 (List.mem_of_mem_take hd0))
                  · refine Da.mvT (KT.updL hDd) ?_ nl
                    rw [ev] at bd
                    exact bd
                · rintro Ha ⟨ea, acc, hD, ga⟩
                  rw [List.take_of_length_le (by rw [gr.len]; exact Nat.le_refl _)] at ga
                  walk_at "zz"
                  refine z_tupleL hD (fun pb Hb nb eb hb => ?_)
                  have bb : Da Hb (.ref pb) (.tuple (rs.map (elderD z))) := .tup hb (DaAll.mv (KD.of_same eb) ga)
                  have Db := D9.trans (Dd.of_same D9.src (ea.trans eb))
                  have kab := KD.of_same (ea.trans eb)
                  walk_at "zz"
                  refine ⟨s, _, rs, 5, rfl, Db.src, a7.mv (KD.of_dd Db), G.rR, by decide, by decide, rpos, fun vt dt Ht bt tt ddt => ?_⟩
                  have Dt := Db.trans ddt
                  have kt := KD.of_dd ddt
                  walk_at "zz"
                  refine d_tup .nil (by simp) (fun pn Hn en bn => ?_)
                  walk_at "zz"
                  have kn := KD.of_same en
                  have lf := List.length_filter_le (fun y => !decide (strD (firstD y) = z)) rs
                  have r1 : booksD (.tuple (putD (bkL z l ve us es as rs) 6 (.tuple (rs.filter fun y => !decide (strD (firstD y) = z))))) = false := G.no6 (.inr fun x hx t => no_of fun h => by
                    obtain ⟨hx1, hx2⟩ := List.mem_filter.mp hx
                    obtain ⟨u', t', rfl⟩ := eqv_own (G.ent x hx1) h
                    rw [show strD (firstD (.tuple [.str z, .int l, .int ve, .tuple u', .tuple t'])) = z from rfl, decide_eq_true rfl] at hx2
                    cases hx2)
                  have r2 : booksD (.tuple (putD (bkL z l ve us es as rs) 6 (.tuple (putD rs j d8)))) = false := G.no6 (.inl (roll_no put_mem no8))
                  have r3 : booksD (.tuple (putD (bkL z l ve us es as rs) 6 (.tuple (rs.map (elderD z))))) = false := G.no6 (.inr fun x hx t => no_of fun h => by
                    obtain ⟨y, hy, rfl⟩ := List.mem_map.mp hx
                    obtain ⟨y0, l0, v0, us0, os0, rfl, _⟩ := entry_shape (G.ent y hy)
                    have h : PyData.eqv (.tuple [.str y0, .int l0, .int (v0 + if y0 = z then 1 else 0), .tuple us0, .tuple os0]) (.tuple [.str z, .int l, .int ve, .tuple us, t]) = true := h
                    rw [eqv_tup, eqvAll_cons, eqvAll_cons, eqvAll_cons, eqv_str, eqv_int, eqv_int] at h
                    simp only [Bool.and_eq_true, beq_iff_eq] at h
                    obtain ⟨q1, q2, q3, _⟩ := h
                    subst q1
                    rw [if_pos rfl] at q3
                    have := one_name G.rR.up hy own rfl
                    cases this
                    omega)
                  have r4 : booksD (.tuple (putD (bkL z l ve us es as rs) 6 (.tuple []))) = false := G.no6 (.inr fun x hx => by cases hx)
                  have r5 : booksD (.tuple (putD (bkL z l ve us es as rs) 6 .none)) = false := G.no6 (.inl rfl)
                  have lp := put_len (ds := rs) (k := j) (e := d8)
                  have c9 := ((b9.mv kab).mv kt).mv kn
                  refine d_menu (R := fun d => booksD (.tuple (putD (bkL z l ve us es as rs) 6 d)) = false ∧ (itD d).length ≤ 1000) (.cons (bt.mv kn) ⟨G.t6 tt, tt.len⟩ (.cons (((c6.mv kab).mv kt).mv kn) ⟨r1, by show (rs.filter _).length ≤ _; omega⟩ (.cons c9 ⟨r2, by show (putD rs j d8).length ≤ _; omega⟩ (.cons c9 ⟨r2, by show (putD rs j d8).length ≤ _; omega⟩ (.cons ((bb.mv kt).mv kn) ⟨r3, by show (rs.map _).length ≤ _; rw [List.length_map]; omega⟩ (.cons bn ⟨r4, Nat.zero_le _⟩ (.cons .non ⟨r5, Nat.zero_le _⟩ .nil))))))) (by simp) (fun pi Hi ei hi ai => ?_)
                  walk_at "zz"
                  have gall := en.trans ei
                  refine d_one (Dt.src.same gall) hi ai (by simp) (by simp) (fun vj dj Hj aj rj ddj => ?_)
                  have Dj := Dt.trans ((Dd.of_same Dt.src gall).trans ddj)
                  walk_at "zz"
                  refine ⟨_, _, _, 6, _, rfl, hv.mv (KD.of_dd Dj), aj, by simp, fun pk Hk ek ak => ?_⟩
                  exact q _ _ Hk ak rj.1 (sz_put G.sz rj.2) (Dj.trans (Dd.of_same Dj.src ek))
def spLaw (K : PySem.W.Frag) (P1 P2 P3 P4 P5 P6 P7 P8 P9 P10 : Addr) : Sp := fun vs H Q _ => ∃ (a : Addr) (ns : List Int), vs = [.ref a] ∧ SqL K H a (ns.map V.int) ∧ ns.length ≤ 63 ∧ GxR.TabG H P1 ∧ GxR.TabG H P2 ∧ GxR.TabG H P3 ∧ GxR.TabG H P4 ∧ GxR.TabG H P5 ∧ GxR.TabG H P6 ∧ GxR.TabG H P7 ∧ GxR.TabG H P8 ∧ GxR.TabG H P9 ∧ GxR.TabG H P10 ∧ ∀ H', Q (.bl true) H'
theorem cells {ns : List Int} (lo hi : Option Int) (hl : ns.length ≤ 63) : ∃ cs : List Int, cutV (ns.map V.int) lo hi = cs.map V.int ∧ cs.length ≤ 63 := by
  refine ⟨(ns.drop (HT.sIx (ns.map V.int).length 0 lo)).take (HT.sIx (ns.map V.int).length (ns.map V.int).length hi - HT.sIx (ns.map V.int).length 0 lo), ?_, ?_⟩
  · unfold cutV
    rw [List.map_take, List.map_drop]
  · rw [List.length_take, List.length_drop]
    omega
theorem cell_at {cs : List Int} {i : Nat} {v : V} (hv : (cs.map V.int)[i]? = some v) : ∃ c : Int, v = .int c := by
  rw [List.getElem?_map] at hv
  obtain ⟨c, _, e⟩ := Option.map_eq_some_iff.mp hv
  exact ⟨c, e.symm⟩
theorem z_src {σ : L2.St} {H : Hp} {Q : VK} {tb : TE} {c : Int} (hb : ∀ (H' : Hp) (Q' : VK), Q' (V.int c) H' → tb σ H' Q') (q : ∀ p H', H p = none → Same H H' → SrcD H' p → Q (.ref p) H') : tDisp [(tC (.str "cell"), tb), (tC (.str "at"), tC (.int 0))] σ H Q := fun p hp => by
  refine hb _ _ ⟨upd_same, [(.inr "cell", .int c), (.inr "at", .int 0)], rfl, by simp, q p _ hp (fun b u e => ?_) ⟨c, 0, ?_⟩⟩
  · have n := ne_of_none e hp
    rw [upd_ne n, upd_ne n]
    exact e
  · rw [upd_same]
    rfl
theorem tgs_dd {d : Addr} {Ps : List Addr} {H H' : Hp} (x : Dd d H H') (h : TGs H Ps) : TGs H' Ps := fun p hp => x.tg (h p hp)
theorem src_kc {d : Addr} {Ps : List Addr} {H H' : Hp} (x : SrcD H d) (k : Kc Ps H H') : SrcD H' d := by
  obtain ⟨c, n, h⟩ := x
  exact ⟨c, n, k.kp _ _ (fun _ z => by cases z) h⟩
theorem ok_law {f P1 P2 P3 P4 P5 P6 P7 P8 P9 P10 C CB : Addr} {fd : FuncData} (F : FnP K "law" s_law f fd) (m_range : mg "range" = none) (h_hand_of : HasX P w K mg base 18 "hand_of" ["books"] (spHandOf [P1, P2, P3, P4, P5, P6, P7, P8, P9, P10] C CB)) (h_Hand_books : HasM P w K mg base 8 C "books" ["self"] (spHBooks [P1, P2, P3, P4, P5, P6, P7, P8, P9, P10] C))
    (h__law_refused : Has P w K mg base 19 "_law_refused" ["_law_thing"] (spRefused [P1, P2, P3, P4, P5, P6, P7, P8, P9, P10])) (h__law_cell_at : Has P w K mg base 1 "_law_cell_at" ["_law_script", "_law_k"] (spCell K)) (h__law_books : Has P w K mg base 6 "_law_books" ["_law_draw_here"] spBooksL) (h__law_spoilt : Has P w K mg base 6 "_law_spoilt" ["_law_draw_here", "_law_books_here"] spSpoilt) : FnOk P w K mg base CX0 20 f fd ["_law_script"] (spLaw K P1 P2 P3 P4 P5 P6 P7 P8 P9 P10) := by
  refine F.ok sc_law (fun vs H Q E h => ?_) (fun cdv A outer s0 H vs Q E hr h => ?_)
  · obtain ⟨a, ns, rfl, _⟩ := h; rfl
  obtain ⟨a, ns, rfl, hS, hlen, hT1, hT2, hT3, hT4, hT5, hT6, hT7, hT8, hT9, hT10, q⟩ := h
  have hT : Zk.TGs H [P1, P2, P3, P4, P5, P6, P7, P8, P9, P10] := fun p hp => by
    simp only [List.mem_cons, List.not_mem_nil, or_false] at hp
    rcases hp with rfl | rfl | rfl | rfl | rfl | rfl | rfl | rfl | rfl | rfl <;> assumption
  generalize hPs : [P1, P2, P3, P4, P5, P6, P7, P8, P9, P10] = Ps at hT h_hand_of h_Hand_books h__law_refused
  refine ⟨_, PSs.nox (pss_cons (ps_for PassesOwn.never rfl (pi_listE K (pe_op op_cat (pe_lst (pa_cons (pe_callH h__law_cell_at (hr.mono (by decide)) (by rfl) (pa_cons (pv 0) (pa_cons pe_int pa_nil))) pa_nil)) (pe_slice (sl_listE K) (pv 0) (po_some pe_int) (po_some pe_int)))) (pg_name (i := 1) sc_law.nd rfl (.inl rfl))
    (pss_cons (ps_set (i := 2) sc_law.nd rfl (.inl rfl) (pe_disp (pps_cons pe_str (pv 1) (pps_cons pe_str pe_int pps_nil)) rfl rfl (by simp) (by decide)))
  (pss_cons (ps_set (i := 3) sc_law.nd rfl (.inl rfl) (pe_callH h__law_books (hr.mono (by decide)) (by rfl) (pa_cons (pv 2) pa_nil)))
  (pss_cons (ps_if (pt_cmpR (op_neDE K hr.units) (pe_mH0 h_Hand_books (pe_callHX h_hand_of (hr.mono (by decide)) (by rfl) takes0 (pa_cons (pv 3) pa_nil)) (hr.mono (by decide))) (pv 3) (nomark _))
    (pss_one (ps_ret pe_bl))
    pss_nil)
  (pss_one (ps_for PassesOwn.never rfl (pi_range1 (by rfl) m_range (pa_cons pe_int pa_nil)) (pg_name (i := 4) sc_law.nd rfl (.inl rfl))
    (pss_one (ps_if (pt_not (pt_val (pe_callH h__law_refused (hr.mono (by decide)) (by rfl) (pa_cons (pe_callH h__law_spoilt (hr.mono (by decide)) (by rfl) (pa_cons (pv 2) (pa_cons (pv 3) pa_nil))) pa_nil))))
    (pss_one (ps_ret pe_bl))
    pss_nil))))))))
  (pss_one (ps_ret pe_bl))), ?_⟩
  walk_at "zz"
  refine ⟨a, ns, 0, rfl, hS, hlen, fun c0 => ?_⟩
  walk_at "zz"
  refine z_new (by simp) (fun p1 H1 n1 s1 h1 => ?_)
  walk_at "zz"
  refine z_slL (s1.seq hS) (fun p2 H2 n2 s2 h2 => ?_)
  obtain ⟨cs, hcs, hcl⟩ := cells (some 1) (some 24) hlen
  rw [hcs] at h2
  refine z_cat (s2 _ _ h1) h2 (by simp; omega) (fun p3 H3 n3 s3 h3 => ?_)
  have e3 := s1.trans (s2.trans s3)
  refine ⟨p3, rfl, ⟨_, SqL.of h3⟩, for_list (xs := (c0 :: cs).map V.int) (fun i σ H' => (∃ y1 y2 y3 y4, σ = [some (.ref a), y1, y2, y3, y4]) ∧ H' p3 = some (.lst ((c0 :: cs).map V.int)) ∧ Zk.TGs H' Ps) ⟨⟨_, _, _, _, rfl⟩, h3, hT.same e3⟩ (fun i σ H' _ h => SqL.of h.2.1) ?_ ?_⟩
  · rintro i v σ H4 hv ⟨⟨y1, y2, y3, y4, rfl⟩, h4, t4⟩
    obtain ⟨c, rfl⟩ := cell_at hv
    walk_at "zz"
    refine z_src (fun H' Q' h => ⟨_, rfl, h⟩) (fun d H5 n5 e5 r5 => ?_)
    have pd : p3 ≠ d := ne_of_none h4 n5
    walk_at "zz"
    refine ⟨d, rfl, r5, fun p z l ve us es as rs H6 G nz b6 d6 => ?_⟩
    have t6 := tgs_dd d6 (t4.same e5)
    have h6 := d6.lst (e5 _ _ h4)
    walk_at "zz"
    refine z_meth ?_
    walk_at "zz"
    refine z_callS ?_
    walk_at "zz"
    refine ⟨_, _, rfl, b6, G.sz, t6, .inr ⟨z, l, ve, us, es, as, rs, rfl, G, fun ph H7 c7 hh => ?_⟩⟩
    obtain ⟨dx, u, er, ac, r, kE, kA, hp7, _⟩ := hh.ex
    refine ⟨ph, dx, _, rfl, hp7, rfl, ?_⟩
    walk_at "zz"
    refine ⟨ph, z, l, ve, us, es, as, rs, rfl, hh, G, c7.tg, nz, fun v8 H8 c8 b8 => ?_⟩
    have c68 := c7.trans c8
    have b68 := b6.mv (KD.of_kp c68.kp)
    have dp : (PyData.tuple (bkL z l ve us es as rs)).depth ≤ 64 := Nat.le_trans G.dep (by decide)
    walk_at "zz"
    refine z_neD (k := true) b8.dp b68.dp (b8.sh dp) (b68.sh dp) (SeqAt.eqv_refl _ b8.lay) ?_
    walk_at "zz"
    refine ⟨_, rfl, by decide, by decide, ?_⟩
    refine for_range (lo := 0) (n := 3) (fun i σ H' => (∃ y4, σ = [some (.ref a), some (.int c), some (.ref d), some (.ref p), y4]) ∧ SrcD H' d ∧ Da H' (.ref p) (.tuple (bkL z l ve us es as rs)) ∧ H' p3 = some (.lst ((c0 :: cs).map V.int)) ∧ Zk.TGs H' Ps) ⟨⟨_, rfl⟩, src_kc d6.src c68, b68, c68.kp.lst h6, c68.tg⟩ ?_ ?_
    · rintro i σ H9 hi ⟨⟨y4, rfl⟩, r9, b9, h9, t9⟩
      walk_at "zz"
      refine ⟨d, _, z, l, ve, us, es, as, rs, rfl, r9, b9, G, fun v' d' Ha ba no sz da => ?_⟩
      have ta := tgs_dd da t9
      walk_at "zz"
      refine ⟨v', d', rfl, ba, no, sz, ta, fun Hb cb => ?_⟩
      walk_at "zz"
      exact ⟨⟨_, rfl⟩, src_kc da.src cb, (b9.mv (KD.of_dd da)).mv (KD.of_kp cb.kp), cb.kp.lst (da.lst h9), cb.tg⟩
    · rintro σ H9 ⟨⟨y4, rfl⟩, r9, b9, h9, t9⟩
      walk_at "zz"
      exact ⟨⟨_, _, _, _, rfl⟩, h9, t9⟩
  · rintro σ H5 ⟨⟨y1, y2, y3, y4, rfl⟩, h5, t5⟩
    walk_at "zz"
    exact q _
end
abbrev PL (K : PySem.W.Frag) : List Addr := [(He.cT K ("is_name", none)).2, (He.cT K ("is_numbers", none)).2, (He.cT K ("is_row", none)).2, (He.cT K ("are_rising", none)).2, (He.cT K ("are_others", none)).2, (He.cT K ("is_roll", none)).2, (He.cT K ("are_eras", none)).2, (He.cT K ("are_accounts", none)).2, (He.cT K ("is_books", none)).2, (He.cT K ("Hand", some "books")).2]
/-! ### the head: facts by names, the run -/
def d__wall : He.DefD := ⟨("_wall", none), "_wall", "_wall", defArgs (topS 0), defBody (topS 0), defScope (topS 0), [], []⟩
def d_is_whole_number : He.DefD := ⟨("is_whole_number", none), "is_whole_number", "is_whole_number", defArgs (topS 10), defBody (topS 10), defScope (topS 10), [], []⟩
def d_is_two_whole_numbers : He.DefD := ⟨("is_two_whole_numbers", none), "is_two_whole_numbers", "is_two_whole_numbers", defArgs (topS 11), defBody (topS 11), defScope (topS 11), [], []⟩
def d_is_part : He.DefD := ⟨("is_part", none), "is_part", "is_part", defArgs (topS 12), defBody (topS 12), defScope (topS 12), [], []⟩
def d_zero_row : He.DefD := ⟨("zero_row", none), "zero_row", "zero_row", defArgs (topS 13), defBody (topS 13), defScope (topS 13), [], []⟩
def d_is_name : He.DefD := ⟨("is_name", none), "is_name", "is_name", defArgs (topS 18), defBody (topS 18), defScope (topS 18), [], []⟩
def d_is_own_number : He.DefD := ⟨("is_own_number", none), "is_own_number", "is_own_number", defArgs (topS 19), defBody (topS 19), defScope (topS 19), [], []⟩
def d_is_numbers : He.DefD := ⟨("is_numbers", none), "is_numbers", "is_numbers", defArgs (topS 20), defBody (topS 20), defScope (topS 20), [], []⟩
def d_is_tuple_of : He.DefD := ⟨("is_tuple_of", none), "is_tuple_of", "is_tuple_of", defArgs (topS 22), defBody (topS 22), defScope (topS 22), [], []⟩
def d_is_count : He.DefD := ⟨("is_count", none), "is_count", "is_count", defArgs (topS 23), defBody (topS 23), defScope (topS 23), [], []⟩
def d_is_stamp : He.DefD := ⟨("is_stamp", none), "is_stamp", "is_stamp", defArgs (topS 24), defBody (topS 24), defScope (topS 24), [], []⟩
def d_is_row : He.DefD := ⟨("is_row", none), "is_row", "is_row", defArgs (topS 25), defBody (topS 25), defScope (topS 25), [], []⟩
def d_are_rising : He.DefD := ⟨("are_rising", none), "are_rising", "are_rising", defArgs (topS 26), defBody (topS 26), defScope (topS 26), [], []⟩
def d_are_others : He.DefD := ⟨("are_others", none), "are_others", "are_others", defArgs (topS 27), defBody (topS 27), defScope (topS 27), [], []⟩
def d_is_entry : He.DefD := ⟨("is_entry", none), "is_entry", "is_entry", defArgs (topS 28), defBody (topS 28), defScope (topS 28), [], []⟩
def d_is_roll : He.DefD := ⟨("is_roll", none), "is_roll", "is_roll", defArgs (topS 29), defBody (topS 29), defScope (topS 29), [], []⟩
def d_is_era : He.DefD := ⟨("is_era", none), "is_era", "is_era", defArgs (topS 30), defBody (topS 30), defScope (topS 30), [], []⟩
def d_is_account : He.DefD := ⟨("is_account", none), "is_account", "is_account", defArgs (topS 31), defBody (topS 31), defScope (topS 31), [], []⟩
def d_are_accounts : He.DefD := ⟨("are_accounts", none), "are_accounts", "are_accounts", defArgs (topS 32), defBody (topS 32), defScope (topS 32), [], []⟩
def d_are_eras : He.DefD := ⟨("are_eras", none), "are_eras", "are_eras", defArgs (topS 33), defBody (topS 33), defScope (topS 33), [], []⟩
def d_is_books : He.DefD := ⟨("is_books", none), "is_books", "is_books", defArgs (topS 34), defBody (topS 34), defScope (topS 34), [], []⟩
def d_account_at_first : He.DefD := ⟨("account_at_first", none), "account_at_first", "account_at_first", defArgs (topS 36), defBody (topS 36), defScope (topS 36), [], []⟩
def d_hand_of : He.DefD := ⟨("hand_of", none), "hand_of", "hand_of", defArgs (topS 38), defBody (topS 38), defScope (topS 38), [], []⟩
def d__law_cell_at : He.DefD := ⟨("_law_cell_at", none), "_law_cell_at", "_law_cell_at", defArgs (topS 40), defBody (topS 40), defScope (topS 40), [], []⟩
def d__law_mixed : He.DefD := ⟨("_law_mixed", none), "_law_mixed", "_law_mixed", defArgs (topS 41), defBody (topS 41), defScope (topS 41), [], []⟩
def d__law_draw : He.DefD := ⟨("_law_draw", none), "_law_draw", "_law_draw", defArgs (topS 42), defBody (topS 42), defScope (topS 42), [], []⟩
def d__law_one : He.DefD := ⟨("_law_one", none), "_law_one", "_law_one", defArgs (topS 43), defBody (topS 43), defScope (topS 43), [], []⟩
def d__law_name : He.DefD := ⟨("_law_name", none), "_law_name", "_law_name", defArgs (topS 44), defBody (topS 44), defScope (topS 44), [], []⟩
def d__law_names : He.DefD := ⟨("_law_names", none), "_law_names", "_law_names", defArgs (topS 45), defBody (topS 45), defScope (topS 45), [], []⟩
def d__law_number : He.DefD := ⟨("_law_number", none), "_law_number", "_law_number", defArgs (topS 46), defBody (topS 46), defScope (topS 46), [], []⟩
def d__law_part : He.DefD := ⟨("_law_part", none), "_law_part", "_law_part", defArgs (topS 47), defBody (topS 47), defScope (topS 47), [], []⟩
def d__law_row : He.DefD := ⟨("_law_row", none), "_law_row", "_law_row", defArgs (topS 48), defBody (topS 48), defScope (topS 48), [], []⟩
def d__law_books : He.DefD := ⟨("_law_books", none), "_law_books", "_law_books", defArgs (topS 49), defBody (topS 49), defScope (topS 49), [], []⟩
def d__law_put : He.DefD := ⟨("_law_put", none), "_law_put", "_law_put", defArgs (topS 50), defBody (topS 50), defScope (topS 50), [], []⟩
def d__law_odd_name : He.DefD := ⟨("_law_odd_name", none), "_law_odd_name", "_law_odd_name", defArgs (topS 51), defBody (topS 51), defScope (topS 51), [], []⟩
def d__law_turned : He.DefD := ⟨("_law_turned", none), "_law_turned", "_law_turned", defArgs (topS 52), defBody (topS 52), defScope (topS 52), [], []⟩
def d__law_account_odd : He.DefD := ⟨("_law_account_odd", none), "_law_account_odd", "_law_account_odd", defArgs (topS 53), defBody (topS 53), defScope (topS 53), [], []⟩
def d__law_entry_odd : He.DefD := ⟨("_law_entry_odd", none), "_law_entry_odd", "_law_entry_odd", defArgs (topS 54), defBody (topS 54), defScope (topS 54), [], []⟩
def d__law_spoilt : He.DefD := ⟨("_law_spoilt", none), "_law_spoilt", "_law_spoilt", defArgs (topS 55), defBody (topS 55), defScope (topS 55), [], []⟩
def d__law_refused : He.DefD := ⟨("_law_refused", none), "_law_refused", "_law_refused", defArgs (topS 56), defBody (topS 56), defScope (topS 56), [], []⟩
def d_law : He.DefD := ⟨("law", none), "law", "law", defArgs (topS 57), defBody (topS 57), defScope (topS 57), [], []⟩
def d_Hand_others : He.DefD := ⟨("Hand", some "others"), "others", "Hand.others", defArgs s_Hand_others, defBody s_Hand_others, defScope s_Hand_others, [], []⟩
def d_Hand_own_entry : He.DefD := ⟨("Hand", some "own_entry"), "own_entry", "Hand.own_entry", defArgs s_Hand_own_entry, defBody s_Hand_own_entry, defScope s_Hand_own_entry, [], []⟩
def d_Hand___init__ : He.DefD := ⟨("Hand", some "__init__"), "__init__", "Hand.__init__", defArgs s_Hand___init__, defBody s_Hand___init__, defScope s_Hand___init__, [], []⟩
def d_Hand_books : He.DefD := ⟨("Hand", some "books"), "books", "Hand.books", defArgs s_Hand_books, defBody s_Hand_books, defScope s_Hand_books, [], []⟩
def fn : List He.DefD := [d_is_whole_number, d_is_two_whole_numbers, d_is_part, d_is_name, d_is_own_number, d_is_numbers, d_is_tuple_of, d_is_count, d_is_stamp, d_is_row, d_are_rising, d_are_others, d_is_entry, d_is_roll, d_is_era, d_are_eras, d_is_account, d_are_accounts, d_is_books, d__law_cell_at, d__law_mixed, d__law_draw, d__law_one, d__law_name, d__law_put, d__law_odd_name, d__law_turned, d__law_account_odd, d__law_entry_odd, d_Hand_others, d_Hand_own_entry, d_account_at_first, d_Hand___init__, d_Hand_books, d_hand_of, d__law_number, d__law_part, d__law_row, d__law_names, d__law_books, d__law_refused, d__law_spoilt, d_law]
def exT (K : PySem.W.Frag) : Bool := excB K (He.ga K "BadBooks") [.ref (He.ga K "SumError"), .type "ValueError"] [.ref (He.ga K "BadWeb"), .ref (He.ga K "NoDeed"), .ref (He.ga K "NoNear"), .ref (He.ga K "NoRow"), .ref (He.ga K "NoText")]
def fa : List He.Fa := [.glo "is_whole_number", .glo "is_two_whole_numbers", .glo "is_part", .glo "is_name", .glo "is_own_number", .glo "is_numbers", .glo "is_tuple_of", .glo "is_count", .glo "is_stamp", .glo "is_row", .glo "are_rising", .glo "are_others", .glo "is_entry", .glo "is_roll", .glo "is_era", .glo "are_eras", .glo "is_account", .glo "are_accounts", .glo "is_books", .glo "_law_cell_at", .glo "_law_mixed", .glo "_law_draw", .glo "_law_one", .glo "_law_name", .glo "_law_put", .glo "_law_odd_name", .glo "_law_turned", .glo "_law_account_odd", .glo "_law_entry_odd", .glo "account_at_first", .glo "hand_of", .glo "_law_number", .glo "_law_part", .glo "_law_row", .glo "_law_names", .glo "_law_books", .glo "_law_refused", .glo "_law_spoilt", .glo "law", .free "isinstance", .free "int", .free "bool", .free "str", .free "tuple", .free "list", .free "len", .free "all", .free "zip", .free "range", .free "sorted", .free "ValueError", .int "LONGEST_NAME" 8, .int "GREATEST_NUMBER" 1000000000000, .int "MOST_NUMBERS" 3, .glo "BadBooks", .glo "SumError", .glo "BadWeb", .glo "NoDeed", .glo "NoNear", .glo "NoRow", .glo "NoText", .exc "BadBooks", .exm "BadBooks" "BadBooks" true, .glo "Hand", .cls "Hand", .mkr "Hand", .noat "Hand" "name", .noat "Hand" "own", .noat "Hand" "life", .noat "Hand" "version", .noat "Hand" "eras", .noat "Hand" "accounts", .noat "Hand" "heard", .meth "Hand" "others", .meth "Hand" "own_entry", .meth "Hand" "books"]
abbrev R : PySem.W.OpenRow := PySem.W.OpenLaw.row PySem.Challenge.rw_sumtold_k23_what_are_no_books
def tf : List He.Defn := [("is_name", none), ("is_numbers", none), ("is_row", none), ("are_rising", none), ("are_others", none), ("is_roll", none), ("are_eras", none), ("are_accounts", none), ("is_books", none), ("Hand", some "books")]
abbrev hk : PySem.W.Hook := He.hookX 58 fa fn [] tf exT
def ob (s : PySem.W.SharedT) : He.AlX := He.obsX 58 fa fn [] tf exT (HandSHeadRun.getT s)
theorem ob_eq (s : PySem.W.SharedT) : ob s = hk.obs s.abs := He.obsX_eq (HandSHeadRun.getT_eq s)
theorem run (w : World) : HandSHeadRun.RunEq R (PySem.W.view R.prog [57]) hk ob 20000 [("_wall" : PySem.Str), ("SumError" : PySem.Str), ("BadWeb" : PySem.Str), ("NoDeed" : PySem.Str), ("BadBooks" : PySem.Str), ("NoNear" : PySem.Str), ("NoText" : PySem.Str), ("NoRow" : PySem.Str), ("is_whole_number" : PySem.Str), ("is_two_whole_numbers" : PySem.Str), ("is_part" : PySem.Str), ("zero_row" : PySem.Str), ("LONGEST_NAME" : PySem.Str), ("MOST_NUMBERS" : PySem.Str), ("GREATEST_NUMBER" : PySem.Str), ("is_name" : PySem.Str), ("is_own_number" : PySem.Str), ("is_numbers" : PySem.Str), ("is_tuple_of" : PySem.Str), ("is_count" : PySem.Str), ("is_stamp" : PySem.Str), ("is_row" : PySem.Str), ("are_rising" : PySem.Str), ("are_others" : PySem.Str), ("is_entry" : PySem.Str), ("is_roll" : PySem.Str), ("is_era" : PySem.Str), ("is_account" : PySem.Str), ("are_accounts" : PySem.Str), ("are_eras" : PySem.Str), ("is_books" : PySem.Str), ("account_at_first" : PySem.Str), ("Hand" : PySem.Str), ("hand_of" : PySem.Str), ("_law_cell_at" : PySem.Str), ("_law_mixed" : PySem.Str), ("_law_draw" : PySem.Str), ("_law_one" : PySem.Str), ("_law_name" : PySem.Str), ("_law_names" : PySem.Str), ("_law_number" : PySem.Str), ("_law_part" : PySem.Str), ("_law_row" : PySem.Str), ("_law_books" : PySem.Str), ("_law_put" : PySem.Str), ("_law_odd_name" : PySem.Str), ("_law_turned" : PySem.Str), ("_law_account_odd" : PySem.Str), ("_law_entry_odd" : PySem.Str), ("_law_spoilt" : PySem.Str), ("_law_refused" : PySem.Str)] w := by
  intro os
  kernel_rfl
theorem facts {P : Program} {w : World} {K : PySem.W.Frag} {h : Heap} {mg : Str → Option Value} {f : Addr} (X : K.In h) (G : h.Ns mainGlobals mg) (hfa : mg ("law" : Str) = some (.ref f)) (c : He.SaysD fa fn K) (cm : exT K = true) :
    ∃ fd : FuncData, (∀ (s : Shared) (v : Value), BindsTo s fd ⟨[v], []⟩ [("_law_script", v)]) ∧ ∀ base : Heap, K.In base → base.Ns mainGlobals mg → (∀ p ∈ tf, LamX.TabB base mg (He.cT K p).1 (He.cT K p).2) → FnOk P w K mg base CX0 20 f fd ["_law_script"] (spLaw K (He.cT K ("is_name", none)).2 (He.cT K ("is_numbers", none)).2 (He.cT K ("is_row", none)).2 (He.cT K ("are_rising", none)).2 (He.cT K ("are_others", none)).2 (He.cT K ("is_roll", none)).2 (He.cT K ("are_eras", none)).2 (He.cT K ("are_accounts", none)).2 (He.cT K ("is_books", none)).2 (He.cT K ("Hand", some "books")).2) := by
  obtain ⟨fd_is_whole_number, F_is_whole_number⟩ := c.def_ 0 (d := d_is_whole_number) rfl
  obtain ⟨fd_is_two_whole_numbers, F_is_two_whole_numbers⟩ := c.def_ 1 (d := d_is_two_whole_numbers) rfl
  obtain ⟨fd_is_part, F_is_part⟩ := c.def_ 2 (d := d_is_part) rfl
  obtain ⟨fd_is_name, F_is_name⟩ := c.def_ 3 (d := d_is_name) rfl
  obtain ⟨fd_is_own_number, F_is_own_number⟩ := c.def_ 4 (d := d_is_own_number) rfl
  obtain ⟨fd_is_numbers, F_is_numbers⟩ := c.def_ 5 (d := d_is_numbers) rfl
  obtain ⟨fd_is_tuple_of, F_is_tuple_of⟩ := c.def_ 6 (d := d_is_tuple_of) rfl
  obtain ⟨fd_is_count, F_is_count⟩ := c.def_ 7 (d := d_is_count) rfl
  obtain ⟨fd_is_stamp, F_is_stamp⟩ := c.def_ 8 (d := d_is_stamp) rfl
  obtain ⟨fd_is_row, F_is_row⟩ := c.def_ 9 (d := d_is_row) rfl
  obtain ⟨fd_are_rising, F_are_rising⟩ := c.def_ 10 (d := d_are_rising) rfl
  obtain ⟨fd_are_others, F_are_others⟩ := c.def_ 11 (d := d_are_others) rfl
  obtain ⟨fd_is_entry, F_is_entry⟩ := c.def_ 12 (d := d_is_entry) rfl
  obtain ⟨fd_is_roll, F_is_roll⟩ := c.def_ 13 (d := d_is_roll) rfl
  obtain ⟨fd_is_era, F_is_era⟩ := c.def_ 14 (d := d_is_era) rfl
  obtain ⟨fd_are_eras, F_are_eras⟩ := c.def_ 15 (d := d_are_eras) rfl
  obtain ⟨fd_is_account, F_is_account⟩ := c.def_ 16 (d := d_is_account) rfl
  obtain ⟨fd_are_accounts, F_are_accounts⟩ := c.def_ 17 (d := d_are_accounts) rfl
  obtain ⟨fd_is_books, F_is_books⟩ := c.def_ 18 (d := d_is_books) rfl
  obtain ⟨fd__law_cell_at, F__law_cell_at⟩ := c.def_ 19 (d := d__law_cell_at) rfl
  obtain ⟨fd__law_mixed, F__law_mixed⟩ := c.def_ 20 (d := d__law_mixed) rfl
  obtain ⟨fd__law_draw, F__law_draw⟩ := c.def_ 21 (d := d__law_draw) rfl
  obtain ⟨fd__law_one, F__law_one⟩ := c.def_ 22 (d := d__law_one) rfl
  obtain ⟨fd__law_name, F__law_name⟩ := c.def_ 23 (d := d__law_name) rfl
  obtain ⟨fd__law_put, F__law_put⟩ := c.def_ 24 (d := d__law_put) rfl
  obtain ⟨fd__law_odd_name, F__law_odd_name⟩ := c.def_ 25 (d := d__law_odd_name) rfl
  obtain ⟨fd__law_turned, F__law_turned⟩ := c.def_ 26 (d := d__law_turned) rfl
  obtain ⟨fd__law_account_odd, F__law_account_odd⟩ := c.def_ 27 (d := d__law_account_odd) rfl
  obtain ⟨fd__law_entry_odd, F__law_entry_odd⟩ := c.def_ 28 (d := d__law_entry_odd) rfl
  obtain ⟨fd_Hand_others, F_Hand_others⟩ := c.def_ 29 (d := d_Hand_others) rfl
  obtain ⟨fd_Hand_own_entry, F_Hand_own_entry⟩ := c.def_ 30 (d := d_Hand_own_entry) rfl
  obtain ⟨fd_account_at_first, F_account_at_first⟩ := c.def_ 31 (d := d_account_at_first) rfl
  obtain ⟨fd_Hand___init__, F_Hand___init__⟩ := c.def_ 32 (d := d_Hand___init__) rfl
  obtain ⟨fd_Hand_books, F_Hand_books⟩ := c.def_ 33 (d := d_Hand_books) rfl
  obtain ⟨fd_hand_of, F_hand_of⟩ := c.def_ 34 (d := d_hand_of) rfl
  obtain ⟨fd__law_number, F__law_number⟩ := c.def_ 35 (d := d__law_number) rfl
  obtain ⟨fd__law_part, F__law_part⟩ := c.def_ 36 (d := d__law_part) rfl
  obtain ⟨fd__law_row, F__law_row⟩ := c.def_ 37 (d := d__law_row) rfl
  obtain ⟨fd__law_names, F__law_names⟩ := c.def_ 38 (d := d__law_names) rfl
  obtain ⟨fd__law_books, F__law_books⟩ := c.def_ 39 (d := d__law_books) rfl
  obtain ⟨fd__law_refused, F__law_refused⟩ := c.def_ 40 (d := d__law_refused) rfl
  obtain ⟨fd__law_spoilt, F__law_spoilt⟩ := c.def_ 41 (d := d__law_spoilt) rfl
  obtain ⟨fd_law, F_law⟩ := c.def_ 42 (d := d_law) rfl
  have e := hfa.symm.trans (He.glo_ok X G (c.fact 38 (f := .glo "law") rfl))
  cases e
  have g_is_whole_number := He.glo_ok X G (c.fact 0 (f := .glo "is_whole_number") rfl)
  have g_is_two_whole_numbers := He.glo_ok X G (c.fact 1 (f := .glo "is_two_whole_numbers") rfl)
  have g_is_part := He.glo_ok X G (c.fact 2 (f := .glo "is_part") rfl)
  have g_is_name := He.glo_ok X G (c.fact 3 (f := .glo "is_name") rfl)
  have g_is_own_number := He.glo_ok X G (c.fact 4 (f := .glo "is_own_number") rfl)
  have g_is_numbers := He.glo_ok X G (c.fact 5 (f := .glo "is_numbers") rfl)
  have g_is_tuple_of := He.glo_ok X G (c.fact 6 (f := .glo "is_tuple_of") rfl)
  have g_is_count := He.glo_ok X G (c.fact 7 (f := .glo "is_count") rfl)
  have g_is_stamp := He.glo_ok X G (c.fact 8 (f := .glo "is_stamp") rfl)
  have g_is_row := He.glo_ok X G (c.fact 9 (f := .glo "is_row") rfl)
  have g_are_rising := He.glo_ok X G (c.fact 10 (f := .glo "are_rising") rfl)
  have g_are_others := He.glo_ok X G (c.fact 11 (f := .glo "are_others") rfl)
  have g_is_entry := He.glo_ok X G (c.fact 12 (f := .glo "is_entry") rfl)
  have g_is_roll := He.glo_ok X G (c.fact 13 (f := .glo "is_roll") rfl)
  have g_is_era := He.glo_ok X G (c.fact 14 (f := .glo "is_era") rfl)
  have g_are_eras := He.glo_ok X G (c.fact 15 (f := .glo "are_eras") rfl)
  have g_is_account := He.glo_ok X G (c.fact 16 (f := .glo "is_account") rfl)
  have g_are_accounts := He.glo_ok X G (c.fact 17 (f := .glo "are_accounts") rfl)
  have g_is_books := He.glo_ok X G (c.fact 18 (f := .glo "is_books") rfl)
  have g__law_cell_at := He.glo_ok X G (c.fact 19 (f := .glo "_law_cell_at") rfl)
  have g__law_mixed := He.glo_ok X G (c.fact 20 (f := .glo "_law_mixed") rfl)
  have g__law_draw := He.glo_ok X G (c.fact 21 (f := .glo "_law_draw") rfl)
  have g__law_one := He.glo_ok X G (c.fact 22 (f := .glo "_law_one") rfl)
  have g__law_name := He.glo_ok X G (c.fact 23 (f := .glo "_law_name") rfl)
  have g__law_put := He.glo_ok X G (c.fact 24 (f := .glo "_law_put") rfl)
  have g__law_odd_name := He.glo_ok X G (c.fact 25 (f := .glo "_law_odd_name") rfl)
  have g__law_turned := He.glo_ok X G (c.fact 26 (f := .glo "_law_turned") rfl)
  have g__law_account_odd := He.glo_ok X G (c.fact 27 (f := .glo "_law_account_odd") rfl)
  have g__law_entry_odd := He.glo_ok X G (c.fact 28 (f := .glo "_law_entry_odd") rfl)
  have g_account_at_first := He.glo_ok X G (c.fact 29 (f := .glo "account_at_first") rfl)
  have g_hand_of := He.glo_ok X G (c.fact 30 (f := .glo "hand_of") rfl)
  have g__law_number := He.glo_ok X G (c.fact 31 (f := .glo "_law_number") rfl)
  have g__law_part := He.glo_ok X G (c.fact 32 (f := .glo "_law_part") rfl)
  have g__law_row := He.glo_ok X G (c.fact 33 (f := .glo "_law_row") rfl)
  have g__law_names := He.glo_ok X G (c.fact 34 (f := .glo "_law_names") rfl)
  have g__law_books := He.glo_ok X G (c.fact 35 (f := .glo "_law_books") rfl)
  have g__law_refused := He.glo_ok X G (c.fact 36 (f := .glo "_law_refused") rfl)
  have g__law_spoilt := He.glo_ok X G (c.fact 37 (f := .glo "_law_spoilt") rfl)
  have m_isinstance := He.free_ok X G (c.fact 39 (f := .free "isinstance") rfl)
  have m_int := He.free_ok X G (c.fact 40 (f := .free "int") rfl)
  have m_bool := He.free_ok X G (c.fact 41 (f := .free "bool") rfl)
  have m_str := He.free_ok X G (c.fact 42 (f := .free "str") rfl)
  have m_tuple := He.free_ok X G (c.fact 43 (f := .free "tuple") rfl)
  have m_list := He.free_ok X G (c.fact 44 (f := .free "list") rfl)
  have m_len := He.free_ok X G (c.fact 45 (f := .free "len") rfl)
  have m_all := He.free_ok X G (c.fact 46 (f := .free "all") rfl)
  have m_zip := He.free_ok X G (c.fact 47 (f := .free "zip") rfl)
  have m_range := He.free_ok X G (c.fact 48 (f := .free "range") rfl)
  have m_sorted := He.free_ok X G (c.fact 49 (f := .free "sorted") rfl)
  have m_ValueError := He.free_ok X G (c.fact 50 (f := .free "ValueError") rfl)
  obtain ⟨t_LONGEST_NAME, c_LONGEST_NAME⟩ := He.int_ok X G (c.fact 51 (f := .int "LONGEST_NAME" 8) rfl)
  obtain ⟨t_GREATEST_NUMBER, c_GREATEST_NUMBER⟩ := He.int_ok X G (c.fact 52 (f := .int "GREATEST_NUMBER" 1000000000000) rfl)
  obtain ⟨t_MOST_NUMBERS, c_MOST_NUMBERS⟩ := He.int_ok X G (c.fact 53 (f := .int "MOST_NUMBERS" 3) rfl)
  have g_BadBooks := He.glo_ok X G (c.fact 54 (f := .glo "BadBooks") rfl)
  have g_SumError := He.glo_ok X G (c.fact 55 (f := .glo "SumError") rfl)
  have g_BadWeb := He.glo_ok X G (c.fact 56 (f := .glo "BadWeb") rfl)
  have g_NoDeed := He.glo_ok X G (c.fact 57 (f := .glo "NoDeed") rfl)
  have g_NoNear := He.glo_ok X G (c.fact 58 (f := .glo "NoNear") rfl)
  have g_NoRow := He.glo_ok X G (c.fact 59 (f := .glo "NoRow") rfl)
  have g_NoText := He.glo_ok X G (c.fact 60 (f := .glo "NoText") rfl)
  have e_BadBooks := errC_of (c.fact 61 (f := .exc "BadBooks") rfl)
  have exm := He.exm_ok (c.fact 62 (f := .exm "BadBooks" "BadBooks" true) rfl)
  have ec := excB_ok cm
  have g_Hand := He.glo_ok X G (c.fact 63 (f := .glo "Hand") rfl)
  have T_Hand : HandC K (He.ga K "Hand") := ⟨He.cls_ok (c.fact 64 (f := .cls "Hand") rfl), He.noat_ok (c.fact 66 (f := .noat "Hand" "name") rfl), He.noat_ok (c.fact 67 (f := .noat "Hand" "own") rfl), He.noat_ok (c.fact 68 (f := .noat "Hand" "life") rfl), He.noat_ok (c.fact 69 (f := .noat "Hand" "version") rfl), He.noat_ok (c.fact 70 (f := .noat "Hand" "eras") rfl), He.noat_ok (c.fact 71 (f := .noat "Hand" "accounts") rfl), He.noat_ok (c.fact 72 (f := .noat "Hand" "heard") rfl)⟩
  have b_is_whole_number : Binds K fd_is_whole_number ["thing"] [] := F_is_whole_number.bindsN fun _ _ _ _ _ _ us hl => match us, hl with | [_], _ => rfl
  have b_is_two_whole_numbers : Binds K fd_is_two_whole_numbers ["thing"] [] := F_is_two_whole_numbers.bindsN fun _ _ _ _ _ _ us hl => match us, hl with | [_], _ => rfl
  have b_is_part : Binds K fd_is_part ["thing"] [] := F_is_part.bindsN fun _ _ _ _ _ _ us hl => match us, hl with | [_], _ => rfl
  have b_is_name : Binds K fd_is_name ["thing"] [] := F_is_name.bindsN fun _ _ _ _ _ _ us hl => match us, hl with | [_], _ => rfl
  have b_is_own_number : Binds K fd_is_own_number ["thing"] [] := F_is_own_number.bindsN fun _ _ _ _ _ _ us hl => match us, hl with | [_], _ => rfl
  have b_is_numbers : Binds K fd_is_numbers ["thing"] [] := F_is_numbers.bindsN fun _ _ _ _ _ _ us hl => match us, hl with | [_], _ => rfl
  have b_is_tuple_of : Binds K fd_is_tuple_of ["thing", "many"] [] := F_is_tuple_of.bindsN fun _ _ _ _ _ _ us hl => match us, hl with | [_, _], _ => rfl
  have b_is_count : Binds K fd_is_count ["thing", "least"] [] := F_is_count.bindsN fun _ _ _ _ _ _ us hl => match us, hl with | [_, _], _ => rfl
  have b_is_stamp : Binds K fd_is_stamp ["thing"] [] := F_is_stamp.bindsN fun _ _ _ _ _ _ us hl => match us, hl with | [_], _ => rfl
  have b_is_row : Binds K fd_is_row ["thing", "parts"] [] := F_is_row.bindsN fun _ _ _ _ _ _ us hl => match us, hl with | [_, _], _ => rfl
  have b_are_rising : Binds K fd_are_rising ["names"] [] := F_are_rising.bindsN fun _ _ _ _ _ _ us hl => match us, hl with | [_], _ => rfl
  have b_are_others : Binds K fd_are_others ["thing", "own"] [] := F_are_others.bindsN fun _ _ _ _ _ _ us hl => match us, hl with | [_, _], _ => rfl
  have b_is_entry : Binds K fd_is_entry ["thing", "many"] [] := F_is_entry.bindsN fun _ _ _ _ _ _ us hl => match us, hl with | [_, _], _ => rfl
  have b_is_roll : Binds K fd_is_roll ["thing", "many"] [] := F_is_roll.bindsN fun _ _ _ _ _ _ us hl => match us, hl with | [_, _], _ => rfl
  have b_is_era : Binds K fd_is_era ["thing"] [] := F_is_era.bindsN fun _ _ _ _ _ _ us hl => match us, hl with | [_], _ => rfl
  have b_are_eras : Binds K fd_are_eras ["thing"] [] := F_are_eras.bindsN fun _ _ _ _ _ _ us hl => match us, hl with | [_], _ => rfl
  have b_is_account : Binds K fd_is_account ["thing", "parts"] [] := F_is_account.bindsN fun _ _ _ _ _ _ us hl => match us, hl with | [_, _], _ => rfl
  have b_are_accounts : Binds K fd_are_accounts ["thing", "parts"] [] := F_are_accounts.bindsN fun _ _ _ _ _ _ us hl => match us, hl with | [_, _], _ => rfl
  have b_is_books : Binds K fd_is_books ["thing"] [] := F_is_books.bindsN fun _ _ _ _ _ _ us hl => match us, hl with | [_], _ => rfl
  have b__law_cell_at : Binds K fd__law_cell_at ["_law_script", "_law_k"] [] := F__law_cell_at.bindsN fun _ _ _ _ _ _ us hl => match us, hl with | [_, _], _ => rfl
  have b__law_mixed : Binds K fd__law_mixed ["_law_cell", "_law_k"] [] := F__law_mixed.bindsN fun _ _ _ _ _ _ us hl => match us, hl with | [_, _], _ => rfl
  have b__law_draw : Binds K fd__law_draw ["_law_draw_here", "_law_many"] [] := F__law_draw.bindsN fun _ _ _ _ _ _ us hl => match us, hl with | [_, _], _ => rfl
  have b__law_one : Binds K fd__law_one ["_law_draw_here", "_law_some"] [] := F__law_one.bindsN fun _ _ _ _ _ _ us hl => match us, hl with | [_, _], _ => rfl
  have b__law_name : Binds K fd__law_name ["_law_draw_here"] [] := F__law_name.bindsN fun _ _ _ _ _ _ us hl => match us, hl with | [_], _ => rfl
  have b__law_put : Binds K fd__law_put ["_law_row_here", "_law_k", "_law_one_here"] [] := F__law_put.bindsN fun _ _ _ _ _ _ us hl => match us, hl with | [_, _, _], _ => rfl
  have b__law_odd_name : Binds K fd__law_odd_name ["_law_draw_here"] [] := F__law_odd_name.bindsN fun _ _ _ _ _ _ us hl => match us, hl with | [_], _ => rfl
  have b__law_turned : Binds K fd__law_turned ["_law_draw_here", "_law_row_here"] [] := F__law_turned.bindsN fun _ _ _ _ _ _ us hl => match us, hl with | [_, _], _ => rfl
  have b__law_account_odd : Binds K fd__law_account_odd ["_law_draw_here", "_law_one_here"] [] := F__law_account_odd.bindsN fun _ _ _ _ _ _ us hl => match us, hl with | [_, _], _ => rfl
  have b__law_entry_odd : Binds K fd__law_entry_odd ["_law_draw_here", "_law_one_here"] [] := F__law_entry_odd.bindsN fun _ _ _ _ _ _ us hl => match us, hl with | [_, _], _ => rfl
  have b_Hand_others : Binds K fd_Hand_others ["self"] [] := F_Hand_others.bindsN fun _ _ _ _ _ _ us hl => match us, hl with | [_], _ => rfl
  have b_Hand_own_entry : Binds K fd_Hand_own_entry ["self"] [] := F_Hand_own_entry.bindsN fun _ _ _ _ _ _ us hl => match us, hl with | [_], _ => rfl
  have b_account_at_first : Binds K fd_account_at_first ["seen", "many"] [] := F_account_at_first.bindsN fun _ _ _ _ _ _ us hl => match us, hl with | [_, _], _ => rfl
  have b_Hand___init__ : Binds K fd_Hand___init__ ["self", "name", "numbers", "others"] [] := F_Hand___init__.bindsN fun _ _ _ _ _ _ us hl => match us, hl with | [_, _, _, _], _ => rfl
  have b_Hand_books : Binds K fd_Hand_books ["self"] [] := F_Hand_books.bindsN fun _ _ _ _ _ _ us hl => match us, hl with | [_], _ => rfl
  have b_hand_of : Binds K fd_hand_of ["books"] [] := F_hand_of.bindsN fun _ _ _ _ _ _ us hl => match us, hl with | [_], _ => rfl
  have b__law_number : Binds K fd__law_number ["_law_draw_here"] [] := F__law_number.bindsN fun _ _ _ _ _ _ us hl => match us, hl with | [_], _ => rfl
  have b__law_part : Binds K fd__law_part ["_law_num", "_law_e"] [] := F__law_part.bindsN fun _ _ _ _ _ _ us hl => match us, hl with | [_, _], _ => rfl
  have b__law_row : Binds K fd__law_row ["_law_draw_here", "_law_many"] [] := F__law_row.bindsN fun _ _ _ _ _ _ us hl => match us, hl with | [_, _], _ => rfl
  have b__law_names : Binds K fd__law_names ["_law_draw_here", "_law_many"] [] := F__law_names.bindsN fun _ _ _ _ _ _ us hl => match us, hl with | [_, _], _ => rfl
  have b__law_books : Binds K fd__law_books ["_law_draw_here"] [] := F__law_books.bindsN fun _ _ _ _ _ _ us hl => match us, hl with | [_], _ => rfl
  have b__law_refused : Binds K fd__law_refused ["_law_thing"] [] := F__law_refused.bindsN fun _ _ _ _ _ _ us hl => match us, hl with | [_], _ => rfl
  have b__law_spoilt : Binds K fd__law_spoilt ["_law_draw_here", "_law_books_here"] [] := F__law_spoilt.bindsN fun _ _ _ _ _ _ us hl => match us, hl with | [_, _], _ => rfl
  have b_law := FunD.bindsA (ps := ["_law_script"]) F_law fun _ _ _ _ _ _ us hl => match us, hl with | [_], _ => rfl
  refine ⟨fd_law, fun s v => b_law s [v] rfl, fun base _ _ TBs => ?_⟩
  have T_is_name : GxR.TabB base mg (He.cT K ("is_name", none)).1 (He.cT K ("is_name", none)).2 := by
    have t := TBs ("is_name", none) (by simp [tf])
    exact ⟨t.code, t.bm, t.gP⟩
  have k_is_name : fd_is_name.code = .ref (He.cT K ("is_name", none)).1 := code_at (p := ("is_name", none)) F_is_name
  have T_is_numbers : GxR.TabB base mg (He.cT K ("is_numbers", none)).1 (He.cT K ("is_numbers", none)).2 := by
    have t := TBs ("is_numbers", none) (by simp [tf])
    exact ⟨t.code, t.bm, t.gP⟩
  have k_is_numbers : fd_is_numbers.code = .ref (He.cT K ("is_numbers", none)).1 := code_at (p := ("is_numbers", none)) F_is_numbers
  have T_is_row : GxR.TabB base mg (He.cT K ("is_row", none)).1 (He.cT K ("is_row", none)).2 := by
    have t := TBs ("is_row", none) (by simp [tf])
    exact ⟨t.code, t.bm, t.gP⟩
  have k_is_row : fd_is_row.code = .ref (He.cT K ("is_row", none)).1 := code_at (p := ("is_row", none)) F_is_row
  have T_are_rising : GxR.TabB base mg (He.cT K ("are_rising", none)).1 (He.cT K ("are_rising", none)).2 := by
    have t := TBs ("are_rising", none) (by simp [tf])
    exact ⟨t.code, t.bm, t.gP⟩
  have k_are_rising : fd_are_rising.code = .ref (He.cT K ("are_rising", none)).1 := code_at (p := ("are_rising", none)) F_are_rising
  have T_are_others : GxR.TabB base mg (He.cT K ("are_others", none)).1 (He.cT K ("are_others", none)).2 := by
    have t := TBs ("are_others", none) (by simp [tf])
    exact ⟨t.code, t.bm, t.gP⟩
  have k_are_others : fd_are_others.code = .ref (He.cT K ("are_others", none)).1 := code_at (p := ("are_others", none)) F_are_others
  have T_is_roll : GxR.TabB base mg (He.cT K ("is_roll", none)).1 (He.cT K ("is_roll", none)).2 := by
    have t := TBs ("is_roll", none) (by simp [tf])
    exact ⟨t.code, t.bm, t.gP⟩
  have k_is_roll : fd_is_roll.code = .ref (He.cT K ("is_roll", none)).1 := code_at (p := ("is_roll", none)) F_is_roll
  have T_are_eras : GxR.TabB base mg (He.cT K ("are_eras", none)).1 (He.cT K ("are_eras", none)).2 := by
    have t := TBs ("are_eras", none) (by simp [tf])
    exact ⟨t.code, t.bm, t.gP⟩
  have k_are_eras : fd_are_eras.code = .ref (He.cT K ("are_eras", none)).1 := code_at (p := ("are_eras", none)) F_are_eras
  have T_are_accounts : GxR.TabB base mg (He.cT K ("are_accounts", none)).1 (He.cT K ("are_accounts", none)).2 := by
    have t := TBs ("are_accounts", none) (by simp [tf])
    exact ⟨t.code, t.bm, t.gP⟩
  have k_are_accounts : fd_are_accounts.code = .ref (He.cT K ("are_accounts", none)).1 := code_at (p := ("are_accounts", none)) F_are_accounts
  have T_is_books : GxR.TabB base mg (He.cT K ("is_books", none)).1 (He.cT K ("is_books", none)).2 := by
    have t := TBs ("is_books", none) (by simp [tf])
    exact ⟨t.code, t.bm, t.gP⟩
  have k_is_books : fd_is_books.code = .ref (He.cT K ("is_books", none)).1 := code_at (p := ("is_books", none)) F_is_books
  have T_Hand_books : GxR.TabB base mg (He.cT K ("Hand", some "books")).1 (He.cT K ("Hand", some "books")).2 := by
    have t := TBs ("Hand", some "books") (by simp [tf])
    exact ⟨t.code, t.bm, t.gP⟩
  have k_Hand_books : fd_Hand_books.code = .ref (He.cT K ("Hand", some "books")).1 := code_at (p := ("Hand", some "books")) F_Hand_books
  have h_is_whole_number : Has P w K mg base _ "is_whole_number" _ _ := ⟨_, fd_is_whole_number, ok_is_whole_number (P := P) (w := w) (base := base) F_is_whole_number m_isinstance m_int m_bool, F_is_whole_number.kp, b_is_whole_number, g_is_whole_number⟩
  have h_is_two_whole_numbers : Has P w K mg base _ "is_two_whole_numbers" _ _ := ⟨_, fd_is_two_whole_numbers, ok_is_two_whole_numbers (P := P) (w := w) (base := base) F_is_two_whole_numbers m_isinstance m_tuple m_len h_is_whole_number, F_is_two_whole_numbers.kp, b_is_two_whole_numbers, g_is_two_whole_numbers⟩
  have h_is_part : Has P w K mg base _ "is_part" _ _ := ⟨_, fd_is_part, ok_is_part (P := P) (w := w) (base := base) F_is_part h_is_two_whole_numbers, F_is_part.kp, b_is_part, g_is_part⟩
  have h_is_name : Has P w K mg base _ "is_name" _ _ := ⟨_, fd_is_name, ok_is_name (P := P) (w := w) (base := base) F_is_name k_is_name T_is_name m_isinstance m_str m_len m_all c_LONGEST_NAME, F_is_name.kp, b_is_name, g_is_name⟩
  have h_is_own_number : Has P w K mg base _ "is_own_number" _ _ := ⟨_, fd_is_own_number, ok_is_own_number (P := P) (w := w) (base := base) F_is_own_number c_GREATEST_NUMBER h_is_whole_number, F_is_own_number.kp, b_is_own_number, g_is_own_number⟩
  have h_is_numbers : Has P w K mg base _ "is_numbers" _ _ := ⟨_, fd_is_numbers, ok_is_numbers (P := P) (w := w) (base := base) F_is_numbers k_is_numbers T_is_numbers m_isinstance m_tuple m_len m_all c_MOST_NUMBERS h_is_own_number, F_is_numbers.kp, b_is_numbers, g_is_numbers⟩
  have h_is_tuple_of : Has P w K mg base _ "is_tuple_of" _ _ := ⟨_, fd_is_tuple_of, ok_is_tuple_of (P := P) (w := w) (base := base) F_is_tuple_of m_isinstance m_tuple m_len, F_is_tuple_of.kp, b_is_tuple_of, g_is_tuple_of⟩
  have h_is_count : Has P w K mg base _ "is_count" _ _ := ⟨_, fd_is_count, ok_is_count (P := P) (w := w) (base := base) F_is_count h_is_whole_number, F_is_count.kp, b_is_count, g_is_count⟩
  have h_is_stamp : Has P w K mg base _ "is_stamp" _ _ := ⟨_, fd_is_stamp, ok_is_stamp (P := P) (w := w) (base := base) F_is_stamp h_is_tuple_of h_is_count, F_is_stamp.kp, b_is_stamp, g_is_stamp⟩
  have h_is_row : Has P w K mg base _ "is_row" _ _ := ⟨_, fd_is_row, ok_is_row (P := P) (w := w) (base := base) F_is_row (Ps := PL K) k_is_row T_is_row (by simp) m_all h_is_tuple_of h_is_part, F_is_row.kp, b_is_row, g_is_row⟩
  have h_are_rising : Has P w K mg base _ "are_rising" _ _ := ⟨_, fd_are_rising, ok_are_rising (P := P) (w := w) (base := base) F_are_rising (Ps := PL K) k_are_rising T_are_rising (by simp) m_all m_zip, F_are_rising.kp, b_are_rising, g_are_rising⟩
  have h_are_others : Has P w K mg base _ "are_others" _ _ := ⟨_, fd_are_others, ok_are_others (P := P) (w := w) (base := base) F_are_others (Ps := PL K) k_are_others T_are_others (by simp) (by simp) m_all m_isinstance m_tuple h_is_name h_are_rising, F_are_others.kp, b_are_others, g_are_others⟩
  have h_is_entry : Has P w K mg base _ "is_entry" _ _ := ⟨_, fd_is_entry, ok_is_entry (P := P) (w := w) (base := base) F_is_entry (Ps := PL K) (by simp) (by simp) m_len h_is_tuple_of h_is_name h_is_count h_is_numbers h_are_others, F_is_entry.kp, b_is_entry, g_is_entry⟩
  have h_is_roll : Has P w K mg base _ "is_roll" _ _ := ⟨_, fd_is_roll, ok_is_roll (P := P) (w := w) (base := base) F_is_roll (Ps := PL K) k_is_roll T_is_roll (by simp) m_all m_isinstance m_tuple h_is_entry h_are_rising, F_is_roll.kp, b_is_roll, g_is_roll⟩
  have h_is_era : Has P w K mg base _ "is_era" _ _ := ⟨_, fd_is_era, ok_is_era (P := P) (w := w) (base := base) F_is_era (Ps := PL K) (by simp) h_is_tuple_of h_is_name h_is_count, F_is_era.kp, b_is_era, g_is_era⟩
  have h_are_eras : Has P w K mg base _ "are_eras" _ _ := ⟨_, fd_are_eras, ok_are_eras (P := P) (w := w) (base := base) F_are_eras (Ps := PL K) k_are_eras T_are_eras (by simp) m_all m_isinstance m_tuple h_is_era, F_are_eras.kp, b_are_eras, g_are_eras⟩
  have h_is_account : Has P w K mg base _ "is_account" _ _ := ⟨_, fd_is_account, ok_is_account (P := P) (w := w) (base := base) F_is_account (Ps := PL K) (by simp) h_is_tuple_of h_is_name h_is_stamp h_is_count h_is_row, F_is_account.kp, b_is_account, g_is_account⟩
  have h_are_accounts : Has P w K mg base _ "are_accounts" _ _ := ⟨_, fd_are_accounts, ok_are_accounts (P := P) (w := w) (base := base) F_are_accounts (Ps := PL K) k_are_accounts T_are_accounts (by simp) m_all m_isinstance m_tuple h_is_account, F_are_accounts.kp, b_are_accounts, g_are_accounts⟩
  have h_is_books : Has P w K mg base _ "is_books" _ _ := ⟨_, fd_is_books, ok_is_books (P := P) (w := w) (base := base) F_is_books (Ps := PL K) k_is_books T_is_books (by simp) (by simp) (by simp) m_all m_len m_tuple h_is_tuple_of h_is_name h_is_numbers h_are_eras h_are_accounts h_is_roll h_are_others h_is_entry, F_is_books.kp, b_is_books, g_is_books⟩
  have h__law_cell_at : Has P w K mg base _ "_law_cell_at" _ _ := ⟨_, fd__law_cell_at, ok__law_cell_at (P := P) (w := w) (base := base) F__law_cell_at m_len, F__law_cell_at.kp, b__law_cell_at, g__law_cell_at⟩
  have h__law_mixed : Has P w K mg base _ "_law_mixed" _ _ := ⟨_, fd__law_mixed, ok__law_mixed (P := P) (w := w) (base := base) F__law_mixed , F__law_mixed.kp, b__law_mixed, g__law_mixed⟩
  have h__law_draw : Has P w K mg base _ "_law_draw" _ _ := ⟨_, fd__law_draw, ok__law_draw (P := P) (w := w) (base := base) F__law_draw h__law_mixed, F__law_draw.kp, b__law_draw, g__law_draw⟩
  have h__law_one : Has P w K mg base _ "_law_one" _ _ := ⟨_, fd__law_one, ok__law_one (P := P) (w := w) (base := base) F__law_one m_len h__law_draw, F__law_one.kp, b__law_one, g__law_one⟩
  have h__law_name : Has P w K mg base _ "_law_name" _ _ := ⟨_, fd__law_name, ok__law_name (P := P) (w := w) (base := base) F__law_name m_range h__law_draw, F__law_name.kp, b__law_name, g__law_name⟩
  have h__law_put : Has P w K mg base _ "_law_put" _ _ := ⟨_, fd__law_put, ok__law_put (P := P) (w := w) (base := base) F__law_put , F__law_put.kp, b__law_put, g__law_put⟩
  have h__law_odd_name : Has P w K mg base _ "_law_odd_name" _ _ := ⟨_, fd__law_odd_name, ok__law_odd_name (P := P) (w := w) (base := base) F__law_odd_name m_len h__law_draw h__law_one h__law_name, F__law_odd_name.kp, b__law_odd_name, g__law_odd_name⟩
  have h__law_turned : Has P w K mg base _ "_law_turned" _ _ := ⟨_, fd__law_turned, ok__law_turned (P := P) (w := w) (base := base) F__law_turned m_len m_list h__law_draw h__law_one h__law_put, F__law_turned.kp, b__law_turned, g__law_turned⟩
  have h__law_account_odd : Has P w K mg base _ "_law_account_odd" _ _ := ⟨_, fd__law_account_odd, ok__law_account_odd (P := P) (w := w) (base := base) F__law_account_odd m_len m_list h__law_draw h__law_one h__law_put, F__law_account_odd.kp, b__law_account_odd, g__law_account_odd⟩
  have h__law_entry_odd : Has P w K mg base _ "_law_entry_odd" _ _ := ⟨_, fd__law_entry_odd, ok__law_entry_odd (P := P) (w := w) (base := base) F__law_entry_odd m_len m_list h__law_draw h__law_one h__law_put h__law_odd_name, F__law_entry_odd.kp, b__law_entry_odd, g__law_entry_odd⟩
  have h_Hand_others : HasM P w K mg base _ (He.ga K "Hand") "others" _ _ := ⟨_, fd_Hand_others, ok_Hand_others (P := P) (w := w) (base := base) F_Hand_others T_Hand m_sorted, T_Hand.cl, He.meth_ok (c.fact 73 (f := .meth "Hand" "others") rfl), b_Hand_others⟩
  have h_Hand_own_entry : HasM P w K mg base _ (He.ga K "Hand") "own_entry" _ _ := ⟨_, fd_Hand_own_entry, ok_Hand_own_entry (P := P) (w := w) (base := base) F_Hand_own_entry T_Hand m_tuple h_Hand_others, T_Hand.cl, He.meth_ok (c.fact 74 (f := .meth "Hand" "own_entry") rfl), b_Hand_own_entry⟩
  have h_account_at_first : Has P w K mg base _ "account_at_first" _ _ := ⟨_, fd_account_at_first, ok_account_at_first (P := P) (w := w) (base := base) F_account_at_first , F_account_at_first.kp, b_account_at_first, g_account_at_first⟩
  have h_Hand : HasC P w K mg base _ (He.ga K "Hand") "Hand" _ _ := ⟨_, fd_Hand___init__, ok_Hand___init__ (P := P) (w := w) (base := base) F_Hand___init__ T_Hand m_len h_account_at_first h_Hand_own_entry, He.mkr_ok (c.fact 65 (f := .mkr "Hand") rfl), b_Hand___init__, g_Hand⟩
  have h_Hand_books : HasM P w K mg base _ (He.ga K "Hand") "books" _ _ := ⟨_, fd_Hand_books, ok_Hand_books (P := P) (w := w) (base := base) F_Hand_books (Ps := PL K) k_Hand_books T_Hand_books (by simp) T_Hand m_sorted m_tuple h_Hand_others, T_Hand.cl, He.meth_ok (c.fact 75 (f := .meth "Hand" "books") rfl), b_Hand_books⟩
  have h_hand_of : HasX P w K mg base _ "hand_of" _ _ := ⟨_, fd_hand_of, ok_hand_of (P := P) (w := w) (base := base) F_hand_of (Ps := PL K) T_Hand e_BadBooks g_BadBooks h_is_books h_Hand, F_hand_of.kp, b_hand_of, g_hand_of⟩
  have h__law_number : Has P w K mg base _ "_law_number" _ _ := ⟨_, fd__law_number, ok__law_number (P := P) (w := w) (base := base) F__law_number h__law_draw h__law_one, F__law_number.kp, b__law_number, g__law_number⟩
  have h__law_part : Has P w K mg base _ "_law_part" _ _ := ⟨_, fd__law_part, ok__law_part (P := P) (w := w) (base := base) F__law_part , F__law_part.kp, b__law_part, g__law_part⟩
  have h__law_row : Has P w K mg base _ "_law_row" _ _ := ⟨_, fd__law_row, ok__law_row (P := P) (w := w) (base := base) F__law_row m_range m_tuple h__law_one h__law_number h__law_part, F__law_row.kp, b__law_row, g__law_row⟩
  have h__law_names : Has P w K mg base _ "_law_names" _ _ := ⟨_, fd__law_names, ok__law_names (P := P) (w := w) (base := base) F__law_names m_range h__law_name, F__law_names.kp, b__law_names, g__law_names⟩
  have h__law_books : Has P w K mg base _ "_law_books" _ _ := ⟨_, fd__law_books, ok__law_books (P := P) (w := w) (base := base) F__law_books m_range m_tuple m_sorted h__law_draw h__law_one h__law_number h__law_row h__law_names, F__law_books.kp, b__law_books, g__law_books⟩
  have h__law_refused : Has P w K mg base _ "_law_refused" _ _ := ⟨_, fd__law_refused, ok__law_refused (P := P) (w := w) (base := base) F__law_refused (Ps := PL K) m_isinstance m_ValueError g_SumError g_BadBooks g_BadWeb g_NoDeed g_NoNear g_NoRow g_NoText exm ec h_hand_of, F__law_refused.kp, b__law_refused, g__law_refused⟩
  have h__law_spoilt : Has P w K mg base _ "_law_spoilt" _ _ := ⟨_, fd__law_spoilt, ok__law_spoilt (P := P) (w := w) (base := base) F__law_spoilt m_len m_list m_tuple m_int h__law_draw h__law_one h__law_put h__law_odd_name h__law_turned h__law_account_odd h__law_entry_odd, F__law_spoilt.kp, b__law_spoilt, g__law_spoilt⟩
  exact ok_law (P := P) (w := w) (base := base) F_law m_range h_hand_of h_Hand_books h__law_refused h__law_cell_at h__law_books h__law_spoilt
end Zl
open PySem PySem.W PySem.Calls PyProof.Rows
theorem PySem.Challenge.cw_sumtold_k23_what_are_no_books_holds : PySem.Challenge.rw_sumtold_k23_what_are_no_books.Holds := by
  w_on; o_law
  refine HandSHeadRun.head_any (r := OpenLaw.row PySem.Challenge.rw_sumtold_k23_what_are_no_books) (q := view (OpenLaw.row PySem.Challenge.rw_sumtold_k23_what_are_no_books).prog [57]) (H := Zl.hk) (ob := Zl.ob) (M := 20000) (loose := [("_wall" : PySem.Str), ("SumError" : PySem.Str), ("BadWeb" : PySem.Str), ("NoDeed" : PySem.Str), ("BadBooks" : PySem.Str), ("NoNear" : PySem.Str), ("NoText" : PySem.Str), ("NoRow" : PySem.Str), ("is_whole_number" : PySem.Str), ("is_two_whole_numbers" : PySem.Str), ("is_part" : PySem.Str), ("zero_row" : PySem.Str), ("LONGEST_NAME" : PySem.Str), ("MOST_NUMBERS" : PySem.Str), ("GREATEST_NUMBER" : PySem.Str), ("is_name" : PySem.Str), ("is_own_number" : PySem.Str), ("is_numbers" : PySem.Str), ("is_tuple_of" : PySem.Str), ("is_count" : PySem.Str), ("is_stamp" : PySem.Str), ("is_row" : PySem.Str), ("are_rising" : PySem.Str), ("are_others" : PySem.Str), ("is_entry" : PySem.Str), ("is_roll" : PySem.Str), ("is_era" : PySem.Str), ("is_account" : PySem.Str), ("are_accounts" : PySem.Str), ("are_eras" : PySem.Str), ("is_books" : PySem.Str), ("account_at_first" : PySem.Str), ("Hand" : PySem.Str), ("hand_of" : PySem.Str), ("_law_cell_at" : PySem.Str), ("_law_mixed" : PySem.Str), ("_law_draw" : PySem.Str), ("_law_one" : PySem.Str), ("_law_name" : PySem.Str), ("_law_names" : PySem.Str), ("_law_number" : PySem.Str), ("_law_part" : PySem.Str), ("_law_row" : PySem.Str), ("_law_books" : PySem.Str), ("_law_put" : PySem.Str), ("_law_odd_name" : PySem.Str), ("_law_turned" : PySem.Str), ("_law_account_odd" : PySem.Str), ("_law_entry_odd" : PySem.Str), ("_law_spoilt" : PySem.Str), ("_law_refused" : PySem.Str)]) (d := HandSHeadRun.topDef (OpenLaw.row PySem.Challenge.rw_sumtold_k23_what_are_no_books).prog 57) (kwd := []) Zl.ob_eq
    (by kernel_rfl) (fun s => by kernel_rfl) Zl.run (by kernel_rfl) (by kernel_rfl) (by kernel_rfl) (by rfl) (by first | assumption | decide +kernel) (by decide +kernel) ⟨rfl, rfl, rfl, rfl, rfl, by decide +kernel⟩ ?hw ?hc
  case hw => w_witness2
  case hc =>
    refine LamX.walk_ofTsE (l := PySem.Challenge.rw_sumtold_k23_what_are_no_books) (n := 63) (k := 20) (x := "_law_script") (CX := fun _ => L2.CX0) rfl (by decide) (by kernel_rfl) ⟨rfl, by decide, by decide⟩ ?F (fun _ _ _ _ _ z => z)
    intro w mg fa h Y G hmg0
    obtain ⟨K, KX, c⟩ := Y
    have hmg : mg ("law" : PySem.Str) = some (.ref fa) := by
      have e : (HandSHeadRun.topDef (OpenLaw.row PySem.Challenge.rw_sumtold_k23_what_are_no_books).prog 57).name = ("law" : PySem.Str) := by kernel_rfl
      rw [← e]
      exact hmg0
    obtain ⟨fd, hb, hF⟩ := Zl.facts (P := (PySem.Challenge.rw_sumtold_k23_what_are_no_books).prog) (w := w) KX G hmg c.t.d c.more
    have mt : ∀ d ∈ Zl.tf, He.cT K d ∈ Zl.tf.map (He.cT K) := fun d hd => List.mem_map.mpr ⟨d, hd, rfl⟩
    refine ⟨K, KX, fd, Zl.tf.map (He.cT K), Zl.spLaw K (He.cT K ("is_name", none)).2 (He.cT K ("is_numbers", none)).2 (He.cT K ("is_row", none)).2 (He.cT K ("are_rising", none)).2 (He.cT K ("are_others", none)).2 (He.cT K ("is_roll", none)).2 (He.cT K ("are_eras", none)).2 (He.cT K ("are_accounts", none)).2 (He.cT K ("is_books", none)).2 (He.cT K ("Hand", some "books")).2, fun p hp => ?_, fun p hp => ?_, fun p hp => ?_, hb, fun H a ns hl _ hH hS => ⟨a, ns, rfl, hS, hl, ⟨#[], hH _ (mt ("is_name", none) (by simp [Zl.tf])), trivial⟩, ⟨#[], hH _ (mt ("is_numbers", none) (by simp [Zl.tf])), trivial⟩, ⟨#[], hH _ (mt ("is_row", none) (by simp [Zl.tf])), trivial⟩, ⟨#[], hH _ (mt ("are_rising", none) (by simp [Zl.tf])), trivial⟩, ⟨#[], hH _ (mt ("are_others", none) (by simp [Zl.tf])), trivial⟩, ⟨#[], hH _ (mt ("is_roll", none) (by simp [Zl.tf])), trivial⟩, ⟨#[], hH _ (mt ("are_eras", none) (by simp [Zl.tf])), trivial⟩, ⟨#[], hH _ (mt ("are_accounts", none) (by simp [Zl.tf])), trivial⟩, ⟨#[], hH _ (mt ("is_books", none) (by simp [Zl.tf])), trivial⟩, ⟨#[], hH _ (mt ("Hand", some "books") (by simp [Zl.tf])), trivial⟩, fun _ => rfl⟩, fun base hK hN TB => hF base hK hN (fun p hp => TB _ (mt p hp))⟩
    · obtain ⟨d, hd, rfl⟩ := List.mem_map.mp hp
      exact c.empty d hd
    · obtain ⟨d, hd, rfl⟩ := List.mem_map.mp hp
      exact c.out d hd
    · obtain ⟨d, hd, rfl⟩ := List.mem_map.mp hp
      exact PySem.W.codeHd_of_K KX (c.hd d hd)
