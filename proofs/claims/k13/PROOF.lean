import PyProof.Rows.All
import Wide.All
import OpenK.AllK
import Wide.FinOn
import KE.KStateDown
import Lean
import HandS.ForMost
import HandS.Flow
import HandS.Wide
import HandS.WideBits
import HandS.IsInst
import HandS.Style
import KE.BitLaws
import HandS.TupAny
import HandS.CallLocal
import HandS.Defaults
import HandS.Head0
import HandS.Head1
import HandS.Head2
import HandS.HeadEnd
import HandS.HeadHook1
import HandS.HeadHook2
import HandS.AnyAll
import HandS.GenList
import HandS.HeadHook4
import HandS.HeadWalk
import HandS.Conv
import PyProof.ListStr
import PyProof.TupleOfGen
import HandS.Zip
import HandS.TupMul
import PyProof.P3Eq
import PyProof.StrOps2
import HandS.NoneIn
import HandS.SetBool
import HandS.SetKeys
import HandS.TupSets
import HandS.Steps
import HandS.Strs
import HandS.DictComp
import HandS.More
import HandS.Exc
import HandS.ExcOwn
import HandS.WordsExc
import HandS.ExcIs
import HandS.TryOnly
import HandS.Deep
import PySem.Challenge.RW_sumtold_k13_what_is_no_web
set_option Elab.async false
set_option linter.all false
set_option maxRecDepth 100000
set_option maxHeartbeats 4000000
set_option pp.deepTerms false
set_option pp.maxSteps 400
set_option Elab.async false
set_option linter.all false
set_option maxRecDepth 100000
set_option maxHeartbeats 2000000
namespace Zk
open PySem PySem.Spec PyProof.Rows L2
/-! ## a def by its promise -/
abbrev FnP (K : PySem.W.Frag) (x : Str) (st : Stmt) (f : Addr) (fd : FuncData) : Prop := FunD K x x (defArgs st) (defBody st) (defScope st) [] [] f fd
def Has (P : Program) (w : World) (K : PySem.W.Frag) (mg : Str → Option Value) (base : Heap) (k : Nat) (x : Str) (ps : List Str) (sp : Sp) : Prop :=
  ∃ f fd, FnOk P w K mg base CX0 k f fd ps sp ∧ PySem.W.keepIn K (.ref f) = true ∧ Binds K fd ps [] ∧ mg x = some (.ref f)
theorem pe_callH {X : Cx} {k : Nat} {x : Str} {ps : List Str} {sp : Sp} {e : Expr} {es : List Expr} {t : TA} {p pos : Pos} (h : Has X.prog X.w X.K X.mg X.base k x ps sp) (hr : Room k X.A) (hg : Gl X x) (ha : PA X (e :: es) t)
    (hdb : (x == ("__debug__" : Str)) = false := by decide) (he : starEach (e :: es) X.env = (false, eval e X.env) :: starEach es X.env := by rfl) (hpl : (backTo pos (starEach es X.env)).any (·.1) = false := by rfl) :
    PE X (.Call (.Name x p) (e :: es) [] pos) (tCall sp [] E0 t) := by
  obtain ⟨f, fd, F, hk, hb, hm⟩ := h
  exact pe_call F hr hg hm hk hb .nil pass0 ha hdb he hpl
/-! ## operators for numbers of some size -/
def CMulA (i j : Int) : Prop := CMul i j ∨ CMulW i j
def CDivA (_ j : Int) : Prop := j ≠ 0 ∧ j.natAbs.log2 < 9000
section
variable {X : Cx}
theorem op_mulA : OpR X (binaryOp .Mult) (rI CMulA fun i j => .int (i * j)) := opI fun _ _ _ _ _ _ _ hc q => mul_int q (hc.elim (fun h => h.ok) (fun h => h.ok))
theorem op_fdivA : OpR X (binaryOp .FloorDiv) (rI CDivA fun i j => .int (i.fdiv j)) := opI fun _ _ _ _ _ _ _ hc q => floordiv_int hc.1 q (.inl (PyProof.noPylong_of_log2 hc.2))
theorem op_shlA : OpR X (binaryOp .LShift) (rI CShl fun i j => .int (i * 2 ^ j.toNat)) := op_shlW
theorem op_shrA : OpR X (binaryOp .RShift) (rI (fun _ j => 0 ≤ j) fun i j => .int (i / 2 ^ j.toNat)) := op_shr
end
theorem divA {i j : Int} {n : Nat} (h0 : j ≠ 0) (h : j.natAbs < 2 ^ n) (hn : 0 < n) (h9 : n ≤ 9000) : CDivA i j := ⟨h0, Nat.lt_of_lt_of_le (PySem.Flt.log2_lt_of hn h) h9⟩
theorem mulA {i j : Int} {a b : Nat} (ha : i.natAbs < 2 ^ a) (hb : j.natAbs < 2 ^ b) (h0 : 0 < a) (h1 : 0 < b) (h : a + b ≤ 1000000) : CMulA i j := .inr (wide_mul ha hb h0 h1 h)
theorem mulL {i j : Int} (h : -(2 ^ 64) < i ∧ i < 2 ^ 64) : CMulA i j := .inl (.inl h)
theorem mulR {i j : Int} (h : -(2 ^ 64) < j ∧ j < 2 ^ 64) : CMulA i j := .inl (.inr h)
/-! ## rules with the written part named -/
def rLenK (K : PySem.W.Frag) : List V → Hp → VK → Prop := fun xs H Q => ∃ x n, xs = [x] ∧ LenV K x H n ∧ Q (.int n) H
def rListK (K : PySem.W.Frag) : List V → Hp → VK → Prop := fun xs H Q => ∃ p ys, xs = [.ref p] ∧ (SqL K H p ys ∨ SqT K H p ys) ∧ ∀ l, H l = none → Q (.ref l) (upd H l (.lst ys))
def rTupleK (K : PySem.W.Frag) : List V → Hp → VK → Prop := fun xs H Q => ∃ p ys, xs = [.ref p] ∧ ((SqL K H p ys ∧ ∀ l, H l = none → Q (.ref l) (upd H l (.tup ys))) ∨ (SqT K H p ys ∧ Q (.ref p) H))
def rAbs : List V → Hp → VK → Prop := fun xs H Q => ∃ i, xs = [.int i] ∧ Q (.int (if i < 0 then -i else i)) H
def rInt1 : List V → Hp → VK → Prop := fun xs H Q => (∃ i, xs = [.int i] ∧ Q (.int i) H) ∨ ∃ k, xs = [.bl k] ∧ Q (.int (if k then 1 else 0)) H
def rMin2 : List V → Hp → VK → Prop := fun xs H Q => ∃ i j, xs = [.int i, .int j] ∧ Q (.int (if j < i then j else i)) H
def rMax2 : List V → Hp → VK → Prop := fun xs H Q => ∃ i j, xs = [.int i, .int j] ∧ Q (.int (if j > i then j else i)) H
section
variable {X : Cx}
theorem call_min2E (hc : X.calm = true) : CallR X (.builtin "min") rMin2 := call_min2 hc
theorem call_max2E (hc : X.calm = true) : CallR X (.builtin "max") rMax2 := call_max2 hc
theorem op_catE (K : PySem.W.Frag) (e : X.K = K := by rfl) : OpR X (binaryOp .Add) (rCatA K) := by rw [← e]; exact op_catA
theorem sl_tupE (K : PySem.W.Frag) (e : X.K = K := by rfl) : SlR X (rSlA K) := by rw [← e]; exact sl_tupA
theorem call_absE : CallR X (.builtin "abs") rAbs := call_abs
theorem call_intE : CallR X (.type "int") rInt1 := call_int1
theorem call_isiE (K : PySem.W.Frag) (e : X.K = K := by rfl) : CallR X (.builtin "isinstance") (rIsi K) := by rw [← e]; exact call_isi
theorem call_lenE (K : PySem.W.Frag) (e : X.K = K := by rfl) : CallR X (.builtin "len") (rLenK K) := by rw [← e]; exact call_len
theorem call_listE (K : PySem.W.Frag) (e : X.K = K := by rfl) : CallR X (.type "list") (rListK K) := by rw [← e]; exact call_list_of
theorem call_tupleE (K : PySem.W.Frag) (e : X.K = K := by rfl) : CallR X (.type "tuple") (rTupleK K) := by rw [← e]; exact call_tuple_of
theorem ix_listE (K : PySem.W.Frag) (e : X.K = K := by rfl) : IxR X (rIxL K) := by rw [← e]; exact ix_list
theorem ix_tupE (K : PySem.W.Frag) (e : X.K = K := by rfl) : IxR X (rIxT K) := by rw [← e]; exact ix_tup
theorem sl_listE (K : PySem.W.Frag) (e : X.K = K := by rfl) : SlR X (rSlL K) := by rw [← e]; exact sl_list
theorem op_inE (K : PySem.W.Frag) (e : X.K = K := by rfl) : OpR X (compareOp .In) (rIn K false) := by rw [← e]; exact op_in_seq
theorem op_notInE (K : PySem.W.Frag) (e : X.K = K := by rfl) : OpR X (compareOp .NotIn) (rIn K true) := by rw [← e]; exact op_notIn_seq
theorem op_eqDE (K : PySem.W.Frag) (hu : X.A.units + 64 < cLine) (e : X.K = K := by rfl) : OpR X (compareOp .Eq) (rEqD K) := by rw [← e]; exact op_eqD hu
theorem op_neDE (K : PySem.W.Frag) (hu : X.A.units + 64 < cLine) (e : X.K = K := by rfl) : OpR X (compareOp .NotEq) (rNeD K) := by rw [← e]; exact op_neD hu
theorem pi_listE (K : PySem.W.Frag) {tg l : Expr} {tl : TE} (hl : PE X l tl) (e : X.K = K := by rfl) : PI X tg l (iList K tl) := by rw [← e]; exact pi_list hl
theorem pi_tupE (K : PySem.W.Frag) {tg l : Expr} {tl : TE} (hl : PE X l tl) (e : X.K = K := by rfl) : PI X tg l (iTup K tl) := by rw [← e]; exact pi_tup hl
theorem pe_orTE (K : PySem.W.Frag) {a b : Expr} {ta tb : TE} {rest : List Expr} {pos : Pos} (ha : PE X a ta) (hb : PE X (.BoolOp .Or (b :: rest) pos) tb) (e : X.K = K := by rfl) : PE X (.BoolOp .Or (a :: b :: rest) pos) (tOrT K ta tb) := by rw [← e]; exact pe_orT ha hb
end
/-! ## the reading, step by step -/
def NewO (o : List V → HO) (xs : List V) (H : Hp) (Q : VK) : Prop := xs.length ≤ sizeLine ∧ ∀ p, H p = none → Q (.ref p) (upd H p (o xs))
section
variable {σ : L2.St} {H : Hp} {Q : VK} {v x y : V} {i : Nat} {ta tb te : TE} {D : Ends} {t u : TS} {c c' : TT} {a b : Int} {K : PySem.W.Frag} {p : Addr} {xs ys : List V}
theorem z_var (h : σ[i]? = some (some v)) (q : Q v H) : tVar i σ H Q := ⟨v, h, q⟩
theorem z_c (q : Q v H) : tC v σ H Q := q
theorem z_op {r : R2} (q : ta σ H fun x H1 => tb σ H1 fun y H2 => r x y H2 Q) : tOp r ta tb σ H Q := q
theorem z_un {r : V → Hp → VK → Prop} (q : ta σ H fun x H1 => r x H1 Q) : tUn r ta σ H Q := q
theorem z_I0 {g : Int → Int → V} (q : Q (g a b) H) : rI0 g (.int a) (.int b) H Q := ⟨a, b, rfl, rfl, q⟩
theorem z_I {C : Int → Int → Prop} {g : Int → Int → V} (hc : C a b) (q : Q (g a b) H) : rI C g (.int a) (.int b) H Q := ⟨a, b, rfl, rfl, hc, q⟩
theorem z_U {g : Int → V} (q : Q (g a) H) : rU g (.int a) H Q := ⟨a, rfl, q⟩
theorem z_eqI (q : Q (.bl (decide (a = b))) H) : rEq (.int a) (.int b) H Q := ⟨rfl, by
  have e : decide (V.int a = V.int b) = decide (a = b) := by
    by_cases h : a = b
    · rw [h, decide_eq_true rfl, decide_eq_true rfl]
    · rw [decide_eq_false h, decide_eq_false (fun z => h (V.int.inj z))]
  rw [e]
  exact q⟩
theorem z_neI (q : Q (.bl (!decide (a = b))) H) : rNe (.int a) (.int b) H Q := ⟨rfl, by
  have e : decide (V.int a = V.int b) = decide (a = b) := by
    by_cases h : a = b
    · rw [h, decide_eq_true rfl, decide_eq_true rfl]
    · rw [decide_eq_false h, decide_eq_false (fun z => h (V.int.inj z))]
  rw [e]
  exact q⟩
theorem z_eqB {k l : Bool} (q : Q (.bl (decide (k = l))) H) : rEq (.bl k) (.bl l) H Q := ⟨rfl, by
  have e : decide (V.bl k = V.bl l) = decide (k = l) := by
    cases k <;> cases l <;> rfl
  rw [e]
  exact q⟩
theorem z_neB {k l : Bool} (q : Q (.bl (!decide (k = l))) H) : rNe (.bl k) (.bl l) H Q := ⟨rfl, by
  have e : decide (V.bl k = V.bl l) = decide (k = l) := by
    cases k <;> cases l <;> rfl
  rw [e]
  exact q⟩
theorem z_isB {k l : Bool} (q : Q (.bl (decide (k = l))) H) : rIsB (.bl k) (.bl l) H Q := ⟨k, l, rfl, rfl, q⟩
theorem z_notB {k l : Bool} (q : Q (.bl (!decide (k = l))) H) : rNotB (.bl k) (.bl l) H Q := ⟨k, l, rfl, rfl, q⟩
theorem z_ixL (h : SqL K H p xs) (e : atI xs a = some v) (q : Q v H) : rIxL K (.ref p) (.int a) H Q := ⟨p, xs, a, v, rfl, rfl, h, e, q⟩
theorem z_ixT (h : SqT K H p xs) (e : atI xs a = some v) (q : Q v H) : rIxT K (.ref p) (.int a) H Q := ⟨p, xs, a, v, rfl, rfl, h, e, q⟩
theorem z_nil {Q : List V → Hp → Prop} (q : Q [] H) : tNil σ H Q := q
theorem z_cons {tr : TA} {Q : List V → Hp → Prop} (q : ta σ H fun x H1 => tr σ H1 fun xs H2 => Q (x :: xs) H2) : tCons ta tr σ H Q := q
theorem z_tup {tr : TA} (q : tr σ H fun xs H1 => NewO HO.tup xs H1 Q) : tTup tr σ H Q := q
theorem z_lst {tr : TA} (q : tr σ H fun xs H1 => NewO HO.lst xs H1 Q) : tLst tr σ H Q := q
theorem z_call {sp : Sp} {dvs : List V} {E : XK} {tr : TA} (q : tr σ H fun vs H1 => sp (vs ++ dvs) H1 Q E) : tCall sp dvs E tr σ H Q := q
theorem z_cb {r : List V → Hp → VK → Prop} {tr : TA} (q : tr σ H fun vs H1 => r vs H1 Q) : tCB r tr σ H Q := q
theorem z_andV (q : ta σ H fun x H1 => ∃ c, x = .bl c ∧ if c = true then tb σ H1 Q else Q (.bl false) H1) : tAndV ta tb σ H Q := q
theorem z_orV (q : ta σ H fun x H1 => ∃ c, x = .bl c ∧ if c = true then Q (.bl true) H1 else tb σ H1 Q) : tOrV ta tb σ H Q := q
theorem z_notV (q : ta σ H fun x H1 => ∃ c, x = .bl c ∧ Q (.bl (!c)) H1) : tNotV ta σ H Q := q
theorem z_orTi (q : if a = 0 then tb σ H Q else Q (.int a) H) : (∃ k, TruV K (.int a) H k ∧ if k = true then Q (.int a) H else tb σ H Q) := by
  refine ⟨a != 0, rfl, ?_⟩
  by_cases h : a = 0
  · rw [if_pos h] at q
    rw [h]
    exact iteF q
  · rw [if_neg h] at q
    have e : (a != 0) = true := by simpa using h
    rw [e]
    exact iteT q
/-- x or y: what stands behind is shown once -/
theorem z_orCut (Pv : Int → Hp → Prop) (ha : a ≠ 0 → Pv a H) (hQ : ∀ m H', Pv m H' → Q (.int m) H') (hb : a = 0 → ∀ Q' : VK, (∀ m H', Pv m H' → Q' (.int m) H') → tb σ H Q') : (∃ k, TruV K (.int a) H k ∧ if k = true then Q (.int a) H else tb σ H Q) := by
  refine z_orTi ?_
  by_cases h : a = 0
  · rw [if_pos h]
    exact hb h Q hQ
  · rw [if_neg h]
    exact hQ _ _ (ha h)
theorem z_orT (q : ta σ H fun x H1 => ∃ k, TruV K x H1 k ∧ if k = true then Q x H1 else tb σ H1 Q) : tOrT K ta tb σ H Q := q
theorem z_ebl {k : Bool} {P : Bool → Prop} (q : P k) : ∃ c, V.bl k = V.bl c ∧ P c := ⟨k, rfl, q⟩
theorem z_eint {P : Int → Prop} (q : P a) : ∃ c, V.int a = V.int c ∧ P c := ⟨a, rfl, q⟩
theorem z_test {Q : Bool → Hp → Prop} (q : te σ H fun x H' => ∃ k, x = .bl k ∧ Q k H') : tTest te σ H Q := q
theorem z_B {Q : Bool → Hp → Prop} (q : te σ H fun x H' => ∃ k, x = .bl k ∧ Q k H') : tB te σ H Q := q
theorem z_and {Q : Bool → Hp → Prop} (q : c σ H fun k H1 => if k = true then c' σ H1 Q else Q false H1) : tAnd c c' σ H Q := q
theorem z_or {Q : Bool → Hp → Prop} (q : c σ H fun k H1 => if k = true then Q true H1 else c' σ H1 Q) : tOr c c' σ H Q := q
theorem z_not {Q : Bool → Hp → Prop} (q : c σ H fun k H1 => Q (!k) H1) : tNot c σ H Q := q
theorem z_yes {Q : Bool → Hp → Prop} (q : Q true H) : tYes σ H Q := q
theorem z_seq (q : t { D with nx := u D } σ H) : tSeq t u D σ H := q
theorem z_next (q : D.nx σ H) : tNext D σ H := q
theorem z_asg {g : TG} (q : te σ H fun x H1 => g x σ H1 D.nx) : tAsg te g D σ H := q
theorem z_name {Q : L2.St → Hp → Prop} (q : Q (σ.set i (some v)) H) : gName i v σ H Q := q
theorem z_ret (q : te σ H D.rt) : tRet te D σ H := q
theorem z_retN (q : D.rt .non H) : tRetN D σ H := q
theorem z_drop (q : te σ H fun _ H1 => D.nx σ H1) : tDrop te D σ H := q
theorem z_if (q : c σ H fun k H1 => if k = true then t D σ H1 else u D σ H1) : tIfS c t u D σ H := q
theorem z_par {j : Nat} {tr : TA} (q : tr σ H fun vs H1 => ∃ v w, vs = [v, w] ∧ D.nx ((σ.set i (some v)).set j (some w)) H1) : tPar i j tr D σ H := q
theorem z_par2 {w : V} {P : V → V → Prop} (q : P v w) : ∃ v' w', [v, w] = [v', w'] ∧ P v' w' := ⟨v, w, rfl, q⟩
theorem z_gTup {n : Nat} {g : TGs} {Q : L2.St → Hp → Prop} (h : SqT K H p xs) (hl : xs.length = n) (q : g xs σ H Q) : gTup K n g (.ref p) σ H Q := ⟨p, xs, rfl, h, hl, q⟩
theorem z_gCons {g : TG} {gs : TGs} {Q : L2.St → Hp → Prop} (q : g v σ H fun σ' H' => gs xs σ' H' Q) : gCons g gs (v :: xs) σ H Q := ⟨v, xs, rfl, q⟩
theorem z_gNil {Q : L2.St → Hp → Prop} (q : Q σ H) : gNil [] σ H Q := ⟨rfl, q⟩
theorem z_gSub {to ti : TE} {ts : TSet} {Q : L2.St → Hp → Prop} (q : to σ H fun o H1 => ti σ H1 fun i H2 => ts o i v H2 fun H3 => Q σ H3) : gSub to ti ts v σ H Q := q
theorem z_setL {j : Nat} {Q : Hp → Prop} (h : H p = some (.lst xs)) (e : ixN xs.length a = some j) (q : Q (upd H p (.lst (xs.set j v)))) : rSetL (.ref p) (.int a) v H Q := ⟨p, xs, a, j, rfl, rfl, h, e, q⟩
theorem z_isi {n s : String} {k : Bool} (hx : TyX K H x (.type n)) (hk : kitB n s = some k) (q : Q (.bl k) H) : rIsi K [x, .ty s] H Q := ⟨x, .ty s, .type n, .type s, k, rfl, .ty s, hx, kit_ty hk, q⟩
theorem z_new {o : List V → HO} (hl : xs.length ≤ 1000) (q : ∀ p H', H p = none → Same H H' → H' p = some (o xs) → Q (.ref p) H') : NewO o xs H Q :=
  ⟨Nat.le_of_lt (small1000 hl), fun p hp => q p _ hp (fun b u e => by rw [upd_ne (ne_of_none e hp)]; exact e) upd_same⟩
theorem z_lenT (h : H p = some (.tup xs)) (q : Q (.int xs.length) H) : rLenK K [.ref p] H Q := ⟨_, xs.length, rfl, .inr ⟨xs, SqT.of h, rfl⟩, q⟩
theorem z_lenL (h : SqL K H p xs) (q : Q (.int xs.length) H) : rLenK K [.ref p] H Q := ⟨_, xs.length, rfl, .inl ⟨xs, h, rfl⟩, q⟩
theorem z_slL {lo hi : Option Int} (h : SqL K H p xs) (q : ∀ p' H', H p' = none → Same H H' → H' p' = some (.lst (cutV xs lo hi)) → Q (.ref p') H') : rSlL K (.ref p) lo hi H Q :=
  ⟨p, xs, rfl, h, fun p' hp => q p' _ hp (fun b u e => by rw [upd_ne (ne_of_none e hp)]; exact e) upd_same⟩
theorem z_cat {l l' : Addr} (h : H l = some (.lst xs)) (h' : H l' = some (.lst ys)) (hl : xs.length + ys.length ≤ 1000) (q : ∀ p' H', H p' = none → Same H H' → H' p' = some (.lst (xs ++ ys)) → Q (.ref p') H') : rCat (.ref l) (.ref l') H Q :=
  ⟨l, l', xs, ys, rfl, rfl, h, h', Nat.le_of_lt (small1000 hl), fun p' hp => q p' _ hp (fun b u e => by rw [upd_ne (ne_of_none e hp)]; exact e) upd_same⟩
theorem z_catT {l l' : Addr} (h : H l = some (.tup xs)) (h' : H l' = some (.tup ys)) (hl : xs.length + ys.length ≤ 1000) (q : ∀ p' H', Same H H' → H' p' = some (.tup (xs ++ ys)) → Q (.ref p') H') : rCatA K (.ref l) (.ref l') H Q :=
  ⟨l, l', xs, ys, rfl, rfl, SqT.of h, SqT.of h', Nat.le_of_lt (small1000 hl), fun e => q l' H (Same.refl H) (by rw [e]; exact h'), fun _ e => q l H (Same.refl H) (by rw [e, List.append_nil]; exact h), fun _ _ p' hp => q p' _ (fun b u e => by rw [upd_ne (ne_of_none e hp)]; exact e) upd_same⟩
theorem cutV_whole {xs : List V} {lo hi : Option Int} (h : HT.sIx xs.length 0 lo = 0 ∧ HT.sIx xs.length xs.length hi = xs.length) : cutV xs lo hi = xs := by
  unfold cutV
  rw [h.1, h.2]
  simp
theorem z_slT {lo hi : Option Int} (h : H p = some (.tup xs)) (q : ∀ p' H', Same H H' → H' p' = some (.tup (cutV xs lo hi)) → Q (.ref p') H') : rSlA K (.ref p) lo hi H Q :=
  ⟨p, xs, rfl, SqT.of h, fun e => q p H (Same.refl H) (by rw [cutV_whole e]; exact h), fun _ p' hp => q p' _ (fun b u e => by rw [upd_ne (ne_of_none e hp)]; exact e) upd_same⟩
theorem z_dnew (q : ∀ p H', H p = none → Same H H' → H' p = some (.dK []) → Q (.ref p) H') : tDNewK σ H Q := fun p hp => q p _ hp (fun b u e => by rw [upd_ne (ne_of_none e hp)]; exact e) upd_same
theorem z_listT (h : H p = some (.tup xs)) (q : ∀ p' H', H p' = none → Same H H' → H' p' = some (.lst xs) → Q (.ref p') H') : rListK K [.ref p] H Q := ⟨p, xs, rfl, .inr (SqT.of h), fun p' hp => q p' _ hp (fun b u e => by rw [upd_ne (ne_of_none e hp)]; exact e) upd_same⟩
theorem z_eqD {d e : PyData} {k : Bool} (h : Dp K H x d) (h' : Dp K H y e) (s : SeqAt.shaped d = true) (s' : SeqAt.shaped e = true) (hk : PyData.eqv d e = k) (q : Q (.bl k) H) : rEqD K x y H Q := ⟨d, e, h, h', s, s', by rw [hk]; exact q⟩
theorem z_neD {d e : PyData} {k : Bool} (h : Dp K H x d) (h' : Dp K H y e) (s : SeqAt.shaped d = true) (s' : SeqAt.shaped e = true) (hk : PyData.eqv d e = k) (q : Q (.bl (!k)) H) : rNeD K x y H Q := ⟨d, e, h, h', s, s', by rw [hk]; exact q⟩
theorem z_min2 {m n : Nat} (q : Q (.int ((min m n : Nat) : Int)) H) : rMin2 [.int (m : Int), .int (n : Int)] H Q := ⟨m, n, rfl, by
  have e : (if (n : Int) < (m : Int) then (n : Int) else (m : Int)) = ((min m n : Nat) : Int) := by split <;> omega
  rw [e]
  exact q⟩
theorem z_max2 {m n : Nat} (q : Q (.int ((max m n : Nat) : Int)) H) : rMax2 [.int (m : Int), .int (n : Int)] H Q := ⟨m, n, rfl, by
  have e : (if (n : Int) > (m : Int) then (n : Int) else (m : Int)) = ((max m n : Nat) : Int) := by split <;> omega
  rw [e]
  exact q⟩
theorem z_intB {k : Bool} (q : Q (.int (if k then 1 else 0)) H) : rInt1 [.bl k] H Q := .inr ⟨k, rfl, q⟩
theorem z_abs (q : Q (.int (a.natAbs : Int)) H) : rAbs [.int a] H Q := ⟨a, rfl, by
  have e : (if a < 0 then -a else a) = (a.natAbs : Int) := by split <;> omega
  rw [e]
  exact q⟩
theorem z_pow (h : CPow a b) (q : Q (.int (a ^ b.toNat)) H) : rI CPow (fun i j => .int (i ^ j.toNat)) (.int a) (.int b) H Q := ⟨a, b, rfl, rfl, h, q⟩
theorem z_modN (h : b ≠ 0) (q : Q (.int (a.fmod b)) H) : rI (fun _ j => j ≠ 0) (fun i j => .int (i.fmod j)) (.int a) (.int b) H Q := ⟨a, b, rfl, rfl, h, q⟩
theorem z_mulA (h : CMulA a b) (q : Q (.int (a * b)) H) : rI CMulA (fun i j => .int (i * j)) (.int a) (.int b) H Q := ⟨a, b, rfl, rfl, h, q⟩
theorem z_fdivA (h : CDivA a b) (q : Q (.int (a.fdiv b)) H) : rI CDivA (fun i j => .int (i.fdiv j)) (.int a) (.int b) H Q := ⟨a, b, rfl, rfl, h, q⟩
theorem z_shlA (h : CShl a b) (q : Q (.int (a * 2 ^ b.toNat)) H) : rI CShl (fun i j => .int (i * 2 ^ j.toNat)) (.int a) (.int b) H Q := ⟨a, b, rfl, rfl, h, q⟩
theorem z_shrA (h : 0 ≤ b) (q : Q (.int (a / 2 ^ b.toNat)) H) : rI (fun _ j => 0 ≤ j) (fun i j => .int (i / 2 ^ j.toNat)) (.int a) (.int b) H Q := ⟨a, b, rfl, rfl, h, q⟩
theorem z_for {wi : TI} {g : TG} {tb : TS} (q : wi σ H fun J H1 => ∃ W : Nat → Nat → L2.St → Hp → Prop, (∃ m, W 0 m σ H1) ∧ ∀ i m σ H, W i m σ H →
  (J.stop i H ∧ D.nx σ H) ∨ (J.go i H ∧ ∃ N : L2.St → Hp → Prop, (∀ σ' H', N σ' H' → ∃ m', m' < m ∧ W (i + 1) m' σ' H') ∧ ∀ x H', J.yld i H x H' → g x σ H' fun σ2 H2 => tb { D with nx := N, ct := N, bk := D.nx } σ2 H2)) : tFor wi g tb D σ H := q
theorem z_rng1 {tr : TA} {R : It → Hp → Prop} (q : tr σ H fun vs H1 => ∃ j : Int, vs = [.int j] ∧ -(2 ^ 62) ≤ j ∧ j < 2 ^ 62 ∧ R (Itr 0 j.toNat) H1) : iRng1 tr σ H R := q
theorem z_iL {R : It → Hp → Prop} (q : te σ H fun x H1 => ∃ a, x = .ref a ∧ (∃ xs, SqL K H1 a xs) ∧ R (Itl K a) H1) : iList K te σ H R := q
theorem z_iT {R : It → Hp → Prop} (q : te σ H fun x H1 => ∃ a, x = .ref a ∧ (∃ xs, SqT K H1 a xs) ∧ R (Itt K a) H1) : iTup K te σ H R := q
theorem z_bm {T : String} {r : V → List V → Hp → VK → Prop} {to : TE} {tr : TA} (q : to σ H fun x H1 => tyV K T x H1 ∧ tr σ H1 fun xs H2 => r x xs H2 Q) : tBM K T r to tr σ H Q := q
theorem z_bits (q : te σ H fun x H1 => ∃ i, x = .int i ∧ Q (.int (Builtin.Int.intBits i : Nat)) H1) : tBits te σ H Q := q
theorem z_sl {r : V → Option Int → Option Int → Hp → VK → Prop} {tl th : TO} (q : te σ H fun x H1 => tl σ H1 fun l H2 => th σ H2 fun u H3 => r x l u H3 Q) : tSl r te tl th σ H Q := q
theorem z_noPart {Q : Option Int → Hp → Prop} (q : Q none H) : tNoPart σ H Q := q
theorem z_part {Q : Option Int → Hp → Prop} (q : te σ H fun x H1 => ∃ i, x = .int i ∧ Q (some i) H1) : tPart te σ H Q := q
theorem z_chain {r r' : R2} {tc : TE} (q : ta σ H fun x H1 => tb σ H1 fun y H2 => r x y H2 fun z H3 => ∃ k, z = .bl k ∧ (if k = true then tc σ H3 fun w' H4 => r' y w' H4 Q else Q (.bl false) H3)) : tChain r r' ta tb tc σ H Q := q
theorem z_itT {k : Bool} {A B : Prop} (e : k = true) (q : A) : if k = true then A else B := by rw [if_pos e]; exact q
theorem z_itF {k : Bool} {A B : Prop} (e : k = false) (q : B) : if k = true then A else B := by rw [e]; exact iteF q
/-- what stands behind is shown once -/
theorem cutT {σ : L2.St} {H : Hp} {t : TT} {Q : Bool → Hp → Prop} (Pv : Bool → Hp → Prop) (h : ∀ Q' : Bool → Hp → Prop, (∀ k H', Pv k H' → Q' k H') → t σ H Q') (hQ : ∀ k H', Pv k H' → Q k H') : t σ H Q := h Q hQ
theorem cutE {σ : L2.St} {H : Hp} {t : TE} {Q : VK} (Pv : V → Hp → Prop) (h : ∀ Q' : VK, (∀ k H', Pv k H' → Q' k H') → t σ H Q') (hQ : ∀ k H', Pv k H' → Q k H') : t σ H Q := h Q hQ
theorem cutSt {σ : L2.St} {H : Hp} {t : TS} {D : Ends} (Pv : L2.St → Hp → Prop) (h : ∀ D' : Ends, (∀ σ' H', Pv σ' H' → D'.nx σ' H') → D'.rt = D.rt → D'.bk = D.bk → D'.ct = D.ct → t D' σ H) (hQ : ∀ σ' H', Pv σ' H' → D.nx σ' H') : t D σ H := h D hQ rfl rfl rfl
theorem sz {n : Nat} (h : n ≤ 1000) : n ≤ sizeLine := Nat.le_of_lt (small1000 h)
theorem z_ite {P : Prop} {A B : Prop} [Decidable P] (h1 : P → A) (h2 : ¬ P → B) : if decide P = true then A else B := by
  by_cases h : P
  · rw [decide_eq_true h]
    exact iteT (h1 h)
  · rw [decide_eq_false h]
    exact iteF (h2 h)
theorem z_nite {P : Prop} {A B : Prop} [Decidable P] (h1 : ¬ P → A) (h2 : P → B) : if (!decide P) = true then A else B := by
  by_cases h : P
  · rw [decide_eq_true h]
    exact iteF (h2 h)
  · rw [decide_eq_false h]
    exact iteT (h1 h)
end
/-! ## the source of draws: a list of three ints; all else stays -/
def Src (H : Hp) (s : Addr) : Prop := ∃ a b c : Int, H s = some (.lst [.int a, .int b, .int c])
structure Dr (s : Addr) (H H' : Hp) : Prop where
  keep : ∀ a o, a ≠ s → H a = some o → H' a = some o
  src : Src H' s
  src0 : Src H s
theorem Dr.trans {s : Addr} {H H1 H2 : Hp} (a : Dr s H H1) (b : Dr s H1 H2) : Dr s H H2 := ⟨fun x o n h => b.keep x o n (a.keep x o n h), b.src, a.src0⟩
theorem Dr.refl {s : Addr} {H : Hp} (h : Src H s) : Dr s H H := ⟨fun _ _ _ h => h, h, h⟩
theorem Src.same {s : Addr} {H H' : Hp} (h : Src H s) (e : Same H H') : Src H' s := by
  obtain ⟨a, b, c, h⟩ := h
  exact ⟨a, b, c, e _ _ h⟩
theorem Src.ne {s p : Addr} {H : Hp} (h : Src H s) (n : H p = none) : p ≠ s := by
  obtain ⟨a, b, c, h⟩ := h
  intro z
  rw [z, h] at n
  cases n
theorem Dr.of_same {s : Addr} {H H' : Hp} (h : Src H s) (e : Same H H') : Dr s H H' := ⟨fun a o _ h => e a o h, h.same e, h⟩
theorem Dr.tup {s a : Addr} {H H' : Hp} {xs : List V} (d : Dr s H H') (ht : H a = some (.tup xs)) : H' a = some (.tup xs) := by
  obtain ⟨x, y, z, h⟩ := d.src0
  exact d.keep a _ (ne_of ht h (by intro q; cases q)) ht
theorem Dr.frz {s a : Addr} {H H' : Hp} {o : Obj} {u : HO} (d : Dr s H H') (ht : H a = some (.frz o u)) : H' a = some (.frz o u) := by
  obtain ⟨x, y, z, h⟩ := d.src0
  exact d.keep a _ (ne_of ht h (by intro q; cases q)) ht
theorem same_get {H H' : Hp} {a : Addr} {o : HO} (e : Same H H') (h : H a = some o) : H' a = some o := e a o h
theorem dpPair {K : PySem.W.Frag} {H : Hp} {p : Addr} {x y : Int} (h : H p = some (.tup [.int x, .int y])) : Dp K H (.ref p) (.tuple [.int x, .int y]) := .tup (SqT.of h) (.cons (.int x) (.cons (.int y) .nil))
theorem shPair (x y : Int) : SeqAt.shaped (.tuple [.int x, .int y]) = true := rfl
theorem eqvPair (x y x' y' : Int) : PyData.eqv (.tuple [.int x, .int y]) (.tuple [.int x', .int y']) = (decide (x = x') && decide (y = y')) := by
  by_cases h : x = x' <;> by_cases h' : y = y' <;> simp [PyData.eqv, PyData.eqvAll, h, h']
theorem eqvPair_of {x y x' y' : Int} (h : x = x') (h' : y = y') : PyData.eqv (.tuple [.int x, .int y]) (.tuple [.int x', .int y']) = true := by
  rw [eqvPair, decide_eq_true h, decide_eq_true h']
  rfl
theorem bool_bl {k l : Bool} (e : k = l) {Q : VK} {H : Hp} (q : Q (.bl l) H) : Q (.bl k) H := by rw [e]; exact q
end Zk
set_option Elab.async false
set_option linter.all false
set_option maxRecDepth 100000
set_option maxHeartbeats 2000000
namespace Zk
open PySem PySem.Spec PyProof.Rows L2
/-! ## pairs: the mathematics -/
def dvs (n d : Int) : Int := if d < 0 then -(Nat.gcd n.natAbs d.natAbs : Int) else (Nat.gcd n.natAbs d.natAbs : Int)
def pn (n d : Int) : Int := n.fdiv (dvs n d)
def pd (n d : Int) : Int := d.fdiv (dvs n d)
theorem gcd_pos {n d : Int} (h : d ≠ 0) : 0 < Nat.gcd n.natAbs d.natAbs := Nat.gcd_pos_of_pos_right _ (by omega)
theorem dvs_ne {n d : Int} (h : d ≠ 0) : dvs n d ≠ 0 := by
  have := gcd_pos (n := n) h
  unfold dvs
  split <;> omega
theorem dvs_abs (n d : Int) : (dvs n d).natAbs = Nat.gcd n.natAbs d.natAbs := by
  unfold dvs
  split <;> omega
theorem dvs_l (n d : Int) : dvs n d ∣ n := by
  rw [← Int.natAbs_dvd_natAbs, dvs_abs]
  exact Nat.gcd_dvd_left _ _
theorem dvs_r (n d : Int) : dvs n d ∣ d := by
  rw [← Int.natAbs_dvd_natAbs, dvs_abs]
  exact Nat.gcd_dvd_right _ _
theorem pn_mul (n d : Int) : pn n d * dvs n d = n := Int.fdiv_mul_cancel (dvs_l n d)
theorem pd_mul (n d : Int) : pd n d * dvs n d = d := Int.fdiv_mul_cancel (dvs_r n d)
theorem pn_abs (n d : Int) : (pn n d).natAbs * Nat.gcd n.natAbs d.natAbs = n.natAbs := by
  have h := congrArg Int.natAbs (pn_mul n d)
  rw [Int.natAbs_mul, dvs_abs] at h
  exact h
theorem pd_abs (n d : Int) : (pd n d).natAbs * Nat.gcd n.natAbs d.natAbs = d.natAbs := by
  have h := congrArg Int.natAbs (pd_mul n d)
  rw [Int.natAbs_mul, dvs_abs] at h
  exact h
theorem pd_pos {n d : Int} (h : d ≠ 0) : 0 < pd n d := by
  have e := pd_mul n d
  have g := gcd_pos (n := n) h
  unfold dvs at e
  by_cases hd : d < 0
  · rw [if_pos hd] at e
    rcases (show 0 < pd n d ∨ pd n d ≤ 0 by omega) with q | q
    · exact q
    · exfalso
      have : 0 ≤ pd n d * -(Nat.gcd n.natAbs d.natAbs : Int) := Int.mul_nonneg_of_nonpos_of_nonpos q (by omega)
      omega
  · rw [if_neg hd] at e
    rcases (show 0 < pd n d ∨ pd n d ≤ 0 by omega) with q | q
    · exact q
    · exfalso
      have : pd n d * (Nat.gcd n.natAbs d.natAbs : Int) ≤ 0 := Int.mul_nonpos_of_nonpos_of_nonneg q (by omega)
      omega
theorem pr_cross (n d : Int) : pn n d * d = n * pd n d := by
  have e1 := pn_mul n d
  have e2 := pd_mul n d
  calc pn n d * d = pn n d * (pd n d * dvs n d) := by rw [e2]
    _ = (pn n d * dvs n d) * pd n d := by rw [Int.mul_comm (pd n d), Int.mul_assoc]
    _ = n * pd n d := by rw [e1]
theorem pr_gcd {n d : Int} (h : d ≠ 0) : Nat.gcd (pn n d).natAbs (pd n d).natAbs = 1 := by
  have g := gcd_pos (n := n) h
  have e := Nat.gcd_mul_right (pn n d).natAbs (Nat.gcd n.natAbs d.natAbs) (pd n d).natAbs
  rw [pn_abs, pd_abs] at e
  exact Nat.eq_of_mul_eq_mul_right g (by omega)
theorem pn_le {n d : Int} (h : d ≠ 0) : (pn n d).natAbs ≤ n.natAbs := by
  have g := gcd_pos (n := n) h
  have e := pn_abs n d
  have : (pn n d).natAbs * 1 ≤ (pn n d).natAbs * Nat.gcd n.natAbs d.natAbs := Nat.mul_le_mul_left _ g
  omega
theorem pd_le {n d : Int} (h : d ≠ 0) : (pd n d).natAbs ≤ d.natAbs := by
  have g := gcd_pos (n := n) h
  have e := pd_abs n d
  have : (pd n d).natAbs * 1 ≤ (pd n d).natAbs * Nat.gcd n.natAbs d.natAbs := Nat.mul_le_mul_left _ g
  omega
/-- a pair in lowest terms -/
structure Low (x y : Int) : Prop where
  pos : 0 < y
  one : Nat.gcd x.natAbs y.natAbs = 1
theorem low_pair {n d : Int} (h : d ≠ 0) : Low (pn n d) (pd n d) := ⟨pd_pos h, pr_gcd h⟩
theorem low_eq {x y x' y' : Int} (h : Low x y) (h' : Low x' y') (e : x * y' = x' * y) : x = x' ∧ y = y' := by
  have ea := congrArg Int.natAbs e
  rw [Int.natAbs_mul, Int.natAbs_mul] at ea
  have d1 : y.natAbs ∣ y'.natAbs := by
    refine Nat.Coprime.dvd_of_dvd_mul_left (k := y.natAbs) (m := x.natAbs) (n := y'.natAbs) ?_ ?_
    · rw [Nat.Coprime, Nat.gcd_comm]
      exact h.one
    · exact ⟨x'.natAbs, by rw [ea, Nat.mul_comm]⟩
  have d2 : y'.natAbs ∣ y.natAbs := by
    refine Nat.Coprime.dvd_of_dvd_mul_left (k := y'.natAbs) (m := x'.natAbs) (n := y.natAbs) ?_ ?_
    · rw [Nat.Coprime, Nat.gcd_comm]
      exact h'.one
    · exact ⟨x.natAbs, by rw [← ea, Nat.mul_comm]⟩
  have ey := Nat.dvd_antisymm d1 d2
  have p1 := h.pos
  have p2 := h'.pos
  have ey2 : y = y' := by omega
  refine ⟨?_, ey2⟩
  rw [← ey2] at e
  exact Int.eq_of_mul_eq_mul_right (by omega) e
/-- a pair is told by its worth -/
theorem pair_eq {n d n' d' : Int} (h : d ≠ 0) (h' : d' ≠ 0) (e : n * d' = n' * d) : pn n d = pn n' d' ∧ pd n d = pd n' d' := by
  refine low_eq (low_pair h) (low_pair h') ?_
  have c1 := pr_cross n d
  have c2 := pr_cross n' d'
  have e2 : (pn n d * pd n' d') * (d * d') = (pn n' d' * pd n d) * (d * d') := by
    calc (pn n d * pd n' d') * (d * d') = (pn n d * d) * (d' * pd n' d') := by
          rw [Int.mul_comm d' (pd n' d'), Int.mul_assoc, Int.mul_assoc, ← Int.mul_assoc (pd n' d') d d', Int.mul_comm (pd n' d') d, Int.mul_assoc]
      _ = (n * pd n d) * (d' * pd n' d') := by rw [c1]
      _ = (n * d') * (pd n d * pd n' d') := by
          rw [Int.mul_assoc, Int.mul_assoc, ← Int.mul_assoc (pd n d) d', Int.mul_comm (pd n d) d', Int.mul_assoc]
      _ = (n' * d) * (pd n d * pd n' d') := by rw [e]
      _ = (n' * pd n' d') * (d * pd n d) := by
          rw [Int.mul_assoc, Int.mul_assoc, Int.mul_comm (pd n d) (pd n' d'), ← Int.mul_assoc d, Int.mul_comm d (pd n' d'), Int.mul_assoc]
      _ = (pn n' d' * d') * (d * pd n d) := by rw [c2]
      _ = (pn n' d' * pd n d) * (d * d') := by
          rw [Int.mul_assoc, Int.mul_assoc, Int.mul_comm d (pd n d), ← Int.mul_assoc d', Int.mul_comm d' (pd n d), Int.mul_assoc, Int.mul_comm d' d]
  exact Int.eq_of_mul_eq_mul_right (by
    intro z
    rcases Int.mul_eq_zero.mp z with q | q
    · exact h q
    · exact h' q) e2
/-- of a pair in lowest terms pair tells itself -/
theorem pair_self {x y : Int} (h : Low x y) : pn x y = x ∧ pd x y = y :=
  low_eq (low_pair (by have := h.pos; omega)) h (by rw [pr_cross])
theorem lt_pow {a b n : Nat} (h : a ≤ b) (hb : b < 2 ^ n) : a < 2 ^ n := Nat.lt_of_le_of_lt h hb
theorem pw_mono {a m n : Nat} (h : a < 2 ^ m) (hn : m ≤ n) : a < 2 ^ n := Nat.lt_of_lt_of_le h (Nat.pow_le_pow_right (by decide) hn)
theorem pw_mul {a b : Int} {m n : Nat} (ha : a.natAbs < 2 ^ m) (hb : b.natAbs < 2 ^ n) : (a * b).natAbs < 2 ^ (m + n) := wide_lt ha hb
theorem pw_add {a b : Int} {n : Nat} (ha : a.natAbs < 2 ^ n) (hb : b.natAbs < 2 ^ n) : (a + b).natAbs < 2 ^ (n + 1) := by
  rw [Nat.pow_succ]
  omega
theorem pw_sub {a b : Int} {n : Nat} (ha : a.natAbs < 2 ^ n) (hb : b.natAbs < 2 ^ n) : (a - b).natAbs < 2 ^ (n + 1) := by
  rw [Nat.pow_succ]
  omega
theorem ipow_le {c a b : Nat} (hc : 0 < c) (h : a ≤ b) : (c : Int) ^ a ≤ (c : Int) ^ b := by
  rw [← Int.natCast_pow, ← Int.natCast_pow]
  exact Int.ofNat_le.mpr (Nat.pow_le_pow_right hc h)
theorem fm2 (x : Nat) : (x : Int).fmod 2 = ((x % 2 : Nat) : Int) := by
  rw [Int.fmod_eq_emod_of_nonneg _ (by decide)]
  rfl
theorem sh1 (x : Nat) : (x : Int) / 2 ^ Int.toNat 1 = ((x / 2 : Nat) : Int) := rfl
theorem gcd_both {x y : Nat} (hx : x % 2 = 0) (hy : y % 2 = 0) : Nat.gcd x y = 2 * Nat.gcd (x / 2) (y / 2) := by
  have ex : x = 2 * (x / 2) := by omega
  have ey : y = 2 * (y / 2) := by omega
  rw [← Nat.gcd_mul_left, ← ex, ← ey]
theorem dvd_two {k : Nat} (h : k ∣ 2) : k = 1 ∨ k = 2 := by
  have : k ≤ 2 := Nat.le_of_dvd (by decide) h
  rcases (show k = 0 ∨ k = 1 ∨ k = 2 by omega) with rfl | rfl | rfl
  · exact absurd h (by decide)
  · exact .inl rfl
  · exact .inr rfl
theorem gcd_left {x y : Nat} (hx : x % 2 = 0) (hy : y % 2 = 1) : Nat.gcd (x / 2) y = Nat.gcd x y := by
  have ex : x = 2 * (x / 2) := by omega
  have c : Nat.Coprime 2 y := by
    unfold Nat.Coprime
    have := Nat.gcd_dvd_left 2 y
    have h2 : Nat.gcd 2 y ∣ y := Nat.gcd_dvd_right 2 y
    rcases (dvd_two this) with h | h
    · exact h
    · rw [h] at h2
      omega
  have h := Nat.Coprime.gcd_mul_left_cancel (x / 2) c
  rw [← ex] at h
  exact h.symm
theorem gcd_right {x y : Nat} (hx : x % 2 = 1) (hy : y % 2 = 0) : Nat.gcd x (y / 2) = Nat.gcd x y := by
  rw [Nat.gcd_comm x, Nat.gcd_comm x]
  exact gcd_left hy hx
theorem gcd_sub {x y : Nat} (h : y ≤ x) : Nat.gcd (x - y) y = Nat.gcd x y := Nat.gcd_sub_self_left h
/-- the while loops' tests pass on what they find -/
theorem mono_neI {i : Nat} {n : Int} {σ : L2.St} {H : Hp} {Q Q' : Bool → Hp → Prop} (hQ : ∀ b H1, Q b H1 → Q' b H1) (h : tTest (tOp rNe (tVar i) (tC (.int n))) σ H Q) : tTest (tOp rNe (tVar i) (tC (.int n))) σ H Q' := by
  obtain ⟨v, e, s, k, e2, q⟩ := h
  exact ⟨v, e, s, k, e2, hQ _ _ q⟩
end Zk
set_option Elab.async false
set_option linter.all false
set_option maxRecDepth 100000
set_option maxHeartbeats 2000000
namespace Zk
open PySem PySem.Spec PyProof.Rows L2
/-! ## parts: the mathematics -/
def partF : Nat → Int → Int × Nat
  | 0, n => (n, 0)
  | e + 1, n => if n % 2 = 0 then partF e (n / 2) else (n, e + 1)
theorem and_odd (k : Nat) : (2 * k + 1) &&& (2 * k) = 2 * k := by
  have h1 : ((2 * k + 1) &&& (2 * k)) / 2 = k := by
    rw [Nat.and_div_two, show (2 * k + 1) / 2 = k by omega, show 2 * k / 2 = k by omega, Nat.and_self]
  have h2 : ((2 * k + 1) &&& (2 * k)) % 2 = 0 := by
    rcases (show ((2 * k + 1) &&& (2 * k)) % 2 = 0 ∨ ((2 * k + 1) &&& (2 * k)) % 2 = 1 by omega) with h | h
    · exact h
    · have := (Nat.and_mod_two_eq_one.mp h).2
      omega
  omega
theorem and_even {k : Nat} (hk : 0 < k) : (2 * k) &&& (2 * k - 1) = 2 * (k &&& (k - 1)) := by
  have h1 : ((2 * k) &&& (2 * k - 1)) / 2 = (k &&& (k - 1)) := by
    rw [Nat.and_div_two, show 2 * k / 2 = k by omega, show (2 * k - 1) / 2 = k - 1 by omega]
  have h2 : ((2 * k) &&& (2 * k - 1)) % 2 = 0 := by
    rcases (show ((2 * k) &&& (2 * k - 1)) % 2 = 0 ∨ ((2 * k) &&& (2 * k - 1)) % 2 = 1 by omega) with h | h
    · exact h
    · have := (Nat.and_mod_two_eq_one.mp h).1
      omega
  omega
theorem low_bit : ∀ (b n : Nat), n ≤ b → 0 < n → ∃ v m : Nat, n = 2 ^ v * (2 * m + 1) ∧ n - (n &&& (n - 1)) = 2 ^ v ∧ (n &&& (n - 1)) ≤ n
  | 0, n, h, h0 => by omega
  | b + 1, n, h, h0 => by
    rcases (show n % 2 = 1 ∨ n % 2 = 0 by omega) with ho | he
    · refine ⟨0, n / 2, by omega, ?_, ?_⟩
      · have e := and_odd (n / 2)
        rw [show 2 * (n / 2) + 1 = n by omega, show 2 * (n / 2) = n - 1 by omega] at e
        rw [e]
        omega
      · exact Nat.and_le_left
    · obtain ⟨v, m, e1, e2, e3⟩ := low_bit b (n / 2) (by omega) (by omega)
      refine ⟨v + 1, m, ?_, ?_, Nat.and_le_left⟩
      · rw [Nat.pow_succ, Nat.mul_comm (2 ^ v) 2, Nat.mul_assoc, ← e1]
        omega
      · have e := and_even (k := n / 2) (by omega)
        rw [show 2 * (n / 2) = n by omega] at e
        rw [e, Nat.pow_succ, ← e2]
        omega
theorem bits_low {x : Int} (hx : x ≠ 0) : ∃ (v : Nat) (m : Int), x = 2 ^ v * m ∧ m % 2 = 1 ∧ Builtin.Int.intBits (Builtin.bitAnd x (-x)) = v + 1 := by
  obtain ⟨v, m, e1, e2, e3⟩ := low_bit x.natAbs x.natAbs (Nat.le_refl _) (by omega)
  have ea : Builtin.bitAnd x (-x) = ((2 ^ v : Nat) : Int) := by
    rcases (show 0 < x ∨ x < 0 by omega) with h | h
    · rw [bitAnd_pn (by omega) (by omega)]
      have e : (Builtin.bitNot (-x)).toNat = x.natAbs - 1 := by
        unfold Builtin.bitNot
        omega
      rw [e, show x.toNat = x.natAbs by omega, ← e2]
      omega
    · rw [bitAnd_np (by omega) (by omega)]
      have e : (Builtin.bitNot x).toNat = x.natAbs - 1 := by
        unfold Builtin.bitNot
        omega
      rw [e, show (-x).toNat = x.natAbs by omega, ← e2]
      omega
  have p0 : 0 < 2 ^ v := Nat.pow_pos (by decide)
  have eb : Builtin.Int.intBits (Builtin.bitAnd x (-x)) = v + 1 := by
    rw [ea]
    unfold Builtin.Int.intBits
    rw [if_neg (show ¬ ((((2 ^ v : Nat) : Int) == 0) = true) from fun z => by
      have := eq_of_beq z
      omega), Int.natAbs_natCast, Nat.log2_two_pow]
  have ec : ((2 : Int) ^ v) = ((2 ^ v : Nat) : Int) := by rw [Int.natCast_pow]; rfl
  rcases (show 0 < x ∨ x < 0 by omega) with h | h
  · refine ⟨v, 2 * (m : Int) + 1, ?_, by omega, eb⟩
    have : x = (x.natAbs : Int) := by omega
    rw [this, e1, Int.natCast_mul, ec]
    rfl
  · refine ⟨v, -(2 * (m : Int) + 1), ?_, by omega, eb⟩
    have : x = -(x.natAbs : Int) := by omega
    rw [this, e1, Int.natCast_mul, ec, Int.mul_neg]
    rfl
theorem partF_zero (e : Nat) : partF e 0 = (0, 0) := by
  induction e with
  | zero => rfl
  | succ e ih => exact ih
theorem two_even (v : Nat) (m : Int) : (2 ^ (v + 1) * m) % 2 = 0 ∧ (2 ^ (v + 1) * m) / 2 = 2 ^ v * m := by
  have e : (2 : Int) ^ (v + 1) * m = 2 * (2 ^ v * m) := by
    rw [Int.pow_succ, Int.mul_comm (2 ^ v) 2, Int.mul_assoc]
  rw [e]
  omega
theorem partF_val : ∀ (e v : Nat) (m : Int), m % 2 = 1 → partF e (2 ^ v * m) = ((2 ^ v * m) / 2 ^ (min v e), e - min v e)
  | 0, v, m, h => by
    rw [Nat.min_zero, Int.pow_zero, Int.ediv_one]
    rfl
  | e + 1, 0, m, h => by
    unfold partF
    rw [Int.pow_zero, Int.one_mul, if_neg (by omega), Nat.zero_min, Int.pow_zero, Int.ediv_one]
    rfl
  | e + 1, v + 1, m, h => by
    unfold partF
    rw [if_pos (two_even v m).1, (two_even v m).2, partF_val e v m h, Nat.succ_min_succ]
    refine Prod.ext ?_ ?_
    · show 2 ^ v * m / 2 ^ min v e = 2 ^ (v + 1) * m / 2 ^ (min v e + 1)
      rw [Int.pow_succ, Int.pow_succ, Int.mul_comm (2 ^ v) 2, Int.mul_comm (2 ^ min v e) 2, Int.mul_assoc, Int.mul_ediv_mul_of_pos _ _ (by decide)]
    · show e - min v e = e + 1 - (min v e + 1)
      omega
theorem partF_shift (e k : Nat) (n : Int) : partF (e + k) (n * 2 ^ k) = partF e n := by
  induction k with
  | zero => rw [Int.pow_zero, Int.mul_one]; rfl
  | succ k ih =>
    show (if (n * 2 ^ (k + 1)) % 2 = 0 then partF (e + k) ((n * 2 ^ (k + 1)) / 2) else (n * 2 ^ (k + 1), e + k + 1)) = partF e n
    have e1 : n * 2 ^ (k + 1) = 2 * (n * 2 ^ k) := by
      rw [Int.pow_succ, ← Int.mul_assoc, Int.mul_comm]
    rw [if_pos (by rw [e1]; omega), show n * 2 ^ (k + 1) / 2 = n * 2 ^ k by rw [e1]; omega]
    exact ih
theorem partF_is : ∀ (e : Nat) (n : Int), (partF e n).2 = 0 ∨ (partF e n).1 % 2 = 1
  | 0, n => .inl rfl
  | e + 1, n => by
    unfold partF
    by_cases h : n % 2 = 0
    · rw [if_pos h]
      exact partF_is e _
    · rw [if_neg h]
      right
      show n % 2 = 1
      omega
theorem partF_le : ∀ (e : Nat) (n : Int), (partF e n).1.natAbs ≤ n.natAbs ∧ (partF e n).2 ≤ e
  | 0, n => ⟨Nat.le_refl _, Nat.le_refl _⟩
  | e + 1, n => by
    unfold partF
    by_cases h : n % 2 = 0
    · rw [if_pos h]
      have := partF_le e (n / 2)
      omega
    · rw [if_neg h]
      exact ⟨Nat.le_refl _, Nat.le_refl _⟩
/-- what is a part already stays -/
theorem partF_id {e : Nat} {n : Int} (h : e = 0 ∨ n % 2 = 1) : partF e n = (n, e) := by
  cases e with
  | zero => rfl
  | succ e =>
    unfold partF
    rw [if_neg (by omega)]
theorem sum_shift (a b : Int) (e1 e2 : Nat) : partF (max e1 e2) (a * 2 ^ (max e1 e2 - e1) + b * 2 ^ (max e1 e2 - e2)) = partF (e1 + e2) (a * 2 ^ e2 + b * 2 ^ e1) := by
  have h1 : max e1 e2 + min e1 e2 = e1 + e2 := by omega
  rw [← partF_shift (max e1 e2) (min e1 e2), h1, Int.add_mul, Int.mul_assoc, Int.mul_assoc, ← Int.pow_add, ← Int.pow_add, show max e1 e2 - e1 + min e1 e2 = e2 by omega, show max e1 e2 - e2 + min e1 e2 = e1 by omega]
theorem bits_least {n c : Nat} (h : n < 2 ^ c) (h' : ∀ d, d < c → 2 ^ d ≤ n) : Builtin.Int.intBits (n : Int) = c := by
  unfold Builtin.Int.intBits
  by_cases h0 : n = 0
  · subst h0
    rw [if_pos (show ((((0 : Nat) : Int) == 0) = true) from rfl)]
    cases c with
    | zero => rfl
    | succ c => have := h' 0 (by omega); simp at this
  · rw [if_neg (show ¬ (((n : Int) == 0) = true) from fun z => by
      have := eq_of_beq z
      omega), Int.natAbs_natCast]
    cases c with
    | zero => simp at h; omega
    | succ c =>
      have h1 := h' c (by omega)
      have := (Nat.log2_eq_iff h0 (k := c)).mpr ⟨h1, h⟩
      omega
end Zk
set_option Elab.async false
set_option linter.all false
set_option maxRecDepth 100000
set_option maxHeartbeats 2000000
/-! Generator expressions whose element is any expression of the layer (calls of defs, captured names), consumed by all(..): after the pattern of the list comprehension's rule, over segments. -/
namespace Zk
open PySem PySem.Spec PyProof.Rows L2 GenW GxR
/-- the context of a generator expression's frame, running in A -/
abbrev gen (X : Cx) (s : Shared) (H : Hp) (cenv : Env) (fp : List Addr) (A : Around) : Cx := { X with s_0 := s, H_0 := H, A := A, env := cenv, outer := X.stack, stack := cenv :: X.stack, ex := fp, fn := fun _ => false, pn := [], xe := fun _ _ => False }
theorem over_comp {A : Around} {e : Expr} {it acc : Value} {env : Env} (he : ∃ elt gs sc p, e = .GeneratorExp elt gs sc p) : A.over (.compLoop e 0 it acc env) [] = A.deeper env := by
  obtain ⟨elt, gs, sc, p, rfl⟩ := he
  first
    | rfl
    | (obtain ⟨hd, d, fr, gs, u⟩ := A; simp [Around.over, Around.deeper, marksOver, frameCount, unitsOf, envsOf, guardsOf, pushEnvs, pushGuards, Code.envs, Code.env?, Code.isFrame, Code.guards, Code.isGuard, Code.weight, Code.frames, Code.isCreation, Code.isCaller, Code.cUnits])
theorem over_compS {A : Around} {e : Expr} {it acc : Value} {env : Env} (he : ∃ elt gs sc p, e = .GeneratorExp elt gs sc p) : A.over (.compStart e 0 it acc env) [] = A.deeper env := by
  obtain ⟨elt, gs, sc, p, rfl⟩ := he
  first
    | rfl
    | (obtain ⟨hd, d, fr, gs, u⟩ := A; simp [Around.over, Around.deeper, marksOver, frameCount, unitsOf, envsOf, guardsOf, pushEnvs, pushGuards, Code.envs, Code.env?, Code.isFrame, Code.guards, Code.isGuard, Code.weight, Code.frames, Code.isCreation, Code.isCaller, Code.cUnits])
section
variable {X : Cx} {pins : List (Addr × Obj)} {σ : L2.St} {H : Hp} {s : Shared}
theorem gen_start {scope : Scope} {own : List (Str × Nat)} {fp : List Addr} {cenv : Env} {code : Value} {A : Around} {s5 : Shared} {m : Str → Option Value} (I : Inv X pins σ H s) (ok : BlkOk X.N X.env.scope scope own) (hN : X.N.Nodup) (hnc : ∀ y ∈ scope.names, y.2 ≠ .cell)
    (hfp : ∀ b ∈ fp, FpOk X pins H b ∧ b < s.heap.objs.size) (hcenv : cenv = genEnv scope (cloFrom X.env.cells scope.names []) s.heap.objs.size code builtinsNs X.env) (hA : A.frames = some (cenv :: X.stack)) (hAh : A.handled = none)
    (hos : s5.os = s.os) (hb5 : AllBare s5.gens) (kp : ∀ b o, s.heap.get? b = some o → s5.heap.get? b = some o) (hns : s5.heap.Ns s.heap.objs.size m) :
    Inv (gen X s H cenv fp A) [] (wipe σ (own.map (·.2))) H s5 := by
  have hfree : ∀ y ∈ scope.names, y.2 = .free → ∃ c, X.env.cells.lookup y.1 = some c := fun y hy e => by
    rcases ok.free y hy e with k | k
    · exact I.ok.has _ (.inl k)
    · exact I.ok.has _ (.inr k)
  have hL : cenv.locals = s.heap.objs.size := by rw [hcenv]; rfl
  have hcl : cenv.cells = cloFrom X.env.cells scope.names [] := by rw [hcenv]; rfl
  have hsc : cenv.scope = scope := by rw [hcenv]; rfl
  have cm : ∀ {y c}, (y, c) ∈ cloFrom X.env.cells scope.names [] → X.env.cells.lookup y = some c ∧ c < s.heap.objs.size := fun {y c} hm => by
    rcases cloFrom_mem hm with hm | ⟨h1, rfl⟩
    · cases hm
    · obtain ⟨c, hc⟩ := hfree _ h1 rfl
      rw [hc]
      obtain ⟨w, z⟩ := I.cell _ _ hc
      exact ⟨rfl, z.lt⟩
  have mem : ∀ {y c}, cenv.cells.lookup y = some c → X.env.cells.lookup y = some c ∧ c < s.heap.objs.size := fun {y c} e => by
    rw [hcl] at e
    exact cm (PySem.mem_of_lookup e)
  have look : ∀ {y}, scope.names.lookup y = some .free → ∃ c, cenv.cells.lookup y = some c ∧ X.env.cells.lookup y = some c := fun {y} hl => by
    have hy : (y, NameKind.free) ∈ scope.names := PySem.mem_of_lookup hl
    obtain ⟨c', e'⟩ := mem_lookup (cloFrom_has (cells := X.env.cells) (acc := []) hy)
    rw [← hcl] at e'
    exact ⟨c', e', (mem e').1⟩
  have okB : (gen X s H cenv fp A).Ok := by
    refine ⟨I.ok.mod, by show cenv.scope.kind = _; rw [hsc]; exact ok.kind, by show cenv.globals = _; rw [hcenv]; exact I.ok.glob, by show cenv.builtins = _; rw [hcenv]; rfl, by show s.heap.objs.size ≤ cenv.locals; rw [hL]; exact Nat.le_refl _,
      fun y z c e1 e2 => ?_, fun y hy => ?_, fun y c z e => ?_, fun _ => hAh, hA, .inr ⟨rfl, ?_⟩, fun b hb => ⟨?_, fun y c e z => ?_⟩, I.bs, Nat.le_trans I.ok.bsz I.sz, fun b o e hb => ?_, fun b hb z => ?_, I.stack, I.stkFree⟩
    · exact I.ok.inj y z c (mem e1).1 (mem e2).1
    · show ∃ c, cenv.cells.lookup y = some c
      have key : ∀ k, cenv.kindOf y = some k → (k = .cell ∨ k = .free) → ∃ c, cenv.cells.lookup y = some c := fun k hk hk' => by
        unfold Env.kindOf at hk
        rw [hsc] at hk
        rcases hk' with rfl | rfl
        · exact absurd rfl (hnc _ (PySem.mem_of_lookup hk))
        · obtain ⟨c, h1, _⟩ := look hk
          exact ⟨c, h1⟩
      rcases hy with hy | hy
      · exact key _ hy (.inl rfl)
      · exact key _ hy (.inr rfl)
    · cases z
    · show cenv.frame = some cenv.locals
      rw [hcenv]
      rfl
    · show b ≠ cenv.locals
      rw [hL]; exact Nat.ne_of_lt (hfp b hb).2
    · exact (hfp b hb).1.2.2.2.2.1 y c (mem e).1 z
    · rcases (hfp b hb).1.2.2.2.1 with z | z
      · exact I.ok.noex b o e z
      · exact absurd (Nat.lt_of_lt_of_le (Heap.lt_size e) (Nat.le_trans I.ok.bsz z)) (Nat.lt_irrefl _)
    · rcases List.mem_cons.mp (I.stkSub b z) with z | z
      · exact (hfp b hb).1.2.1 z
      · exact (hfp b hb).1.2.2.1 z
  refine ⟨okB, hos, hb5, Un.kept kp, ⟨m, ?_, fun i y av e1 e2 e3 => ?_⟩, fun y c e => ?_, ?_, fun y c e => ?_, fun p hp => ?_, I.hok.kept kp, by rw [wipe_length]; exact I.len⟩
  · show Heap.Ns _ cenv.locals _
    rw [hL]
    exact hns
  · obtain ⟨e2, hne⟩ := wipe_some e2
    have hfr : scope.names.lookup y = some .free := by
      have key : ∀ k, cenv.scope.names.lookup y = some k → k = .local ∨ k = .cell ∨ k = .free → scope.names.lookup y = some .free := fun k hk hk' => by
        rw [hsc] at hk
        rcases hk' with rfl | rfl | rfl
        · exfalso
          rcases ok.own _ (PySem.mem_of_lookup hk) (.inl rfl) with e' | e'
          · obtain ⟨p, hp, hpy⟩ := List.mem_map.mp e'
            have e3 := ok.ix p hp
            have : p.1 = y := hpy
            rw [this] at e3
            exact hne (List.mem_map.mpr ⟨p, hp, nodup_ix hN e3 e1⟩)
          · exact e' (List.mem_of_getElem? e1)
        · exact absurd rfl (hnc _ (PySem.mem_of_lookup hk))
        · exact hk
      have e3 : Vis cenv.scope y := e3
      rcases e3 with e3 | e3 | e3
      · exact key _ e3 (.inl rfl)
      · exact key _ e3 (.inr (.inl rfl))
      · exact key _ e3 (.inr (.inr rfl))
    obtain ⟨m, hn, hl⟩ := I.loc
    have hvis : Vis X.env.scope y := (ok.free _ (PySem.mem_of_lookup hfr) rfl).elim (fun k => .inr (.inl k)) (fun k => .inr (.inr k))
    obtain ⟨w, r, q⟩ := hl i y av e1 e2 hvis
    refine ⟨w, r, .inr ⟨.inr ?_, ?_⟩⟩
    · show cenv.scope.names.lookup y = some .free
      rw [hsc]
      exact hfr
    obtain ⟨c, h1, h2⟩ := look hfr
    rcases q with ⟨k, _⟩ | ⟨_, c', e', z⟩
    · have k : X.env.scope.names.lookup y = some .local := k
      rcases ok.free _ (PySem.mem_of_lookup hfr) rfl with k' | k' <;> rw [show X.env.scope.names.lookup y = _ from k'] at k <;> cases k
    · rw [h2] at e'; cases e'
      exact ⟨c, h1, z.keeps kp⟩
  · obtain ⟨w, z⟩ := I.cell y c (mem e).1
    exact ⟨w, z.keeps kp⟩
  · show H cenv.locals = none
    rw [hL]; exact I.hok.fresh (Nat.le_refl _)
  · exact I.freeC y c (mem e).1
  · exact absurd (show p ∈ ([] : List (Addr × Obj)) ++ [] from hp) (by simp)
/-- all that stood stands as it was -/
def Woken (s s'' : Shared) : Prop := s''.os = s.os ∧ AllBare s''.gens ∧ ∀ b o, s.heap.get? b = some o → s''.heap.get? b = some o
theorem inv_woken {s'' : Shared} (I : Inv X pins σ H s) (w : Woken s s'') : Inv X pins σ H s'' := by
  obtain ⟨h', g', d', t', o'⟩ := s''
  obtain ⟨w1, w2, w3⟩ := w
  have e : o' = s.os := w1
  subst e
  refine I.step (g' := g') (d' := d') (t' := t') (ch := []) (fun b hb => absurd hb (by simp)) (fun b o _ _ _ e _ => w3 b o e) (fun b o _ _ _ e _ => ⟨o.slots, w3 b o e⟩) (fun _ _ _ _ n => n)
    (fun b o _ e => ⟨o, w3 b o e⟩) (fun _ _ e => e) (fun _ _ _ e => e) (fun b ps e => ⟨#[], by rw [e]; simp⟩) (fun m hm => ?_) (fun b u e => ?_) w2
  · obtain ⟨ob, es, ep, ho, r⟩ := hm
    exact ⟨ob, es, ep, w3 _ ob ho, r⟩
  · exact (I.hok b u e).stay (fun d v _ q => w3 d v q) (fun d q => q) fun d xs q => q
/-! ### all(.. for .. in ..) -/
/-- an item is handed out: a truth -/
def YAll (G : Cx) (p0 : List (Addr × Obj)) (Qf : Hp → Prop) : Protocol := fun _ _ v s kap =>
  ∃ (k : Bool) (σ2 : L2.St) (H : Hp), v = .bool k ∧ Inv G p0 σ2 H s ∧ (k = true → ∀ s'', Woken s s'' → kap (.send .none) s'') ∧ (k = false → Qf H)
def FAll (G : Cx) (p0 : List (Addr × Obj)) (Qt : Hp → Prop) : Nat → Shared → Shared → Prop := fun _ _ s => ∃ (σ2 : L2.St) (H : Hp), Inv G p0 σ2 H s ∧ Qt H
def RAll (G : Cx) (p0 : List (Addr × Obj)) (Qt : Hp → Prop) : GenEnd := fun n s₀ r s₁ => ((r = .ok (.ret .none) ∨ r = .ok .next) ∧ FAll G p0 Qt n s₀ s₁) ∨ ∃ e, r = .error e ∧ (fun (_ : Value) (_ : Shared) => False) e s₁
/-- what the loop's turns ask -/
def AllTurns (J : It) (g : TG) (tt : TT) (te : TE) (vs : List Nat) (σw : L2.St) (W : Nat → Nat → Hp → Prop) (Qt Qf : Hp → Prop) : Prop :=
  ∀ i m H, W i m H → (J.stop i H ∧ Qt H) ∨ (J.go i H ∧ ∃ Nx : Hp → Prop, (∀ H', Nx H' → ∃ m', m' < m ∧ W (i + 1) m' H') ∧ ∀ x H', J.yld i H x H' → g x σw H' fun σ2 H2 => wipe σ2 vs = σw ∧ tt σ2 H2 fun b H3 =>
    if b = true then te σ2 H3 fun y H4 => ∃ k, y = .bl k ∧ (if k = true then Nx H4 else Qf H4) else Nx H3)
theorem seg_all {elt tg iter : Expr} {ifs : List Expr} {scope : Scope} {pos : Pos} {it : Addr} {fp : List Addr} {tn : Nat → Heap → Prop} {J : It} {W : Nat → Nat → Hp → Prop} {σw : L2.St} {vs : List Nat} {A : Around} {cenv : Env} {s3 : Shared} {H3 : Hp} {p0 : List (Addr × Obj)} {Qt Qf : Hp → Prop} {g : TG} {tt : TT} {te : TE}
    (hc : X.calm = true) (hco : cenv.scope.isCoroutine = false) (T : Turn X.prog X.w X.K tg J fp it tn) (hp0 : ∀ p ∈ p0, p.1 ∉ fp)
    (pg : PG (gen X s3 H3 cenv fp (A.deeper cenv)) tg g) (pt : PTs (gen X s3 H3 cenv fp (A.deeper cenv)) ifs tt) (pe : PE (gen X s3 H3 cenv fp (A.deeper cenv)) elt te) (turn : AllTurns J g tt te vs σw W Qt Qf) :
    ∀ (m i n : Nat) (s₀ s : Shared) (H : Hp), m < n → Inv (gen X s3 H3 cenv fp (A.deeper cenv)) p0 σw H s → tn i s.heap → (∀ b ∈ fp, H b = none) → W i m H →
      Seg (model X.prog X.w) A (RAll (gen X s3 H3 cenv fp (A.deeper cenv)) p0 Qt) (YAll (gen X s3 H3 cenv fp (A.deeper cenv)) p0 Qf) n s₀ (.compLoop (.GeneratorExp elt [⟨tg, iter, ifs, 0⟩] scope pos) 0 (.ref it) .none cenv)
        ((model X.prog X.w).den (.compLoop (.GeneratorExp elt [⟨tg, iter, ifs, 0⟩] scope pos) 0 (.ref it) .none cenv)) [] s := by
  have ov : A.over (.compLoop (.GeneratorExp elt [⟨tg, iter, ifs, 0⟩] scope pos) 0 (.ref it) .none cenv) [] = A.deeper cenv := over_comp ⟨_, _, _, _, rfl⟩
  have stat : ∀ {σ' : L2.St} {H' : Hp} {s' : Shared}, Inv (gen X s3 H3 cenv fp (A.deeper cenv)) p0 σ' H' s' → (∀ b ∈ fp, H' b = none) → ∀ b ∈ fp, FpOk (gen X s3 H3 cenv fp (A.deeper cenv)) p0 H' b := fun {σ' H' s'} I' hn b hb =>
    ⟨hn b hb, (I'.ok.exf b hb).1, I'.ok.exfs b hb, .inl hb, fun x c e => (I'.ok.exf b hb).2 x c e, fun p hp z => by
      rcases List.mem_append.mp hp with hp | hp
      · cases hp
      · exact hp0 p hp (z ▸ hb)⟩
  intro m
  induction m using Nat.strongRecOn with
  | ind m ih =>
    intro i n s₀ s H hmn I st nf w
    obtain ⟨n, rfl⟩ : ∃ k, n = k + 1 := ⟨n - 1, by omega⟩
    show Seg _ A _ _ _ s₀ _ ((compTurn (.GeneratorExp elt [⟨tg, iter, ifs, 0⟩] scope pos) 0 (.ref it) .none cenv).onRaise (leaving cenv)) [] s
    rw [compTurn_gen, Sem.onRaise_eq_wrap]
    refine seg_bind_wrap (wpAny_standAt ?_)
    rcases turn i m H w with ⟨stop, qq⟩ | ⟨go, Nx, hNx, step⟩
    · have td := T.done (gen X s3 H3 cenv fp (A.deeper cenv)) rfl rfl rfl hc i p0 s _ H (fun _ _ => False) I (stat I nf) st stop
      refine seg_bind_wrap ?_
      rw [ov]
      refine thnF td fun r s6 ⟨hr, I6⟩ => ?_
      subst hr
      exact seg_end (.ok .next) (.inl ⟨.inr rfl, _, _, I6, qq⟩)
    · have ti := T.item (gen X s3 H3 cenv fp (A.deeper cenv)) rfl rfl rfl hc i p0 s _ H (fun _ _ => False) I (stat I nf) st go
      refine seg_bind_wrap ?_
      rw [ov]
      refine thnF ti fun r s6 ⟨u, hr, h6⟩ => ?_
      subst hr
      refine seg_bind_wrap ?_
      rw [ov]
      refine thnF h6 fun _ s7 ⟨x, H7, I7, r7, y7, st7, n7⟩ => ?_
      have I7' := I7.pinned (stat I7 n7) (T.obj _ _ st7)
      refine seg_bind_wrap ?_
      rw [ov]
      refine thnF (pg.run _ s7 _ H7 x u _ I7' r7 (step x H7 y7)) fun _ s8 ⟨σ8, H8, I8, hw8, q8⟩ => ?_
      refine seg_bind_wrap ?_
      rw [ov]
      refine thnF (pt.run _ s8 σ8 H8 _ I8 q8) fun b s9 ⟨H9, I9, q9⟩ => ?_
      -- the turn's end
      have fin : ∀ {s' s'' : Shared} {H' : Hp} {n' : Nat} {s0' : Shared}, Inv (gen X s3 H3 cenv fp (A.deeper cenv)) (p0 ++ pinsAt fp s7.heap) σ8 H' s' → Woken s' s'' → Nx H' → m ≤ n' →
          Seg (model X.prog X.w) A (RAll (gen X s3 H3 cenv fp (A.deeper cenv)) p0 Qt) (YAll (gen X s3 H3 cenv fp (A.deeper cenv)) p0 Qf) n' s0' (.compLoop (.GeneratorExp elt [⟨tg, iter, ifs, 0⟩] scope pos) 0 (.ref it) .none cenv)
            ((model X.prog X.w).den (.compLoop (.GeneratorExp elt [⟨tg, iter, ifs, 0⟩] scope pos) 0 (.ref it) .none cenv)) [] s'' := fun {s' s'' H' n' s0'} I' wk nx hn' => by
        obtain ⟨m', hm, w'⟩ := hNx H' nx
        have pin' : ∀ b ∈ fp, ∀ o, s7.heap.get? b = some o → s'.heap.get? b = some o ∧ H' b = none := fun b hb o e =>
          let z := I'.pin (b, o) (List.mem_append_right _ (List.mem_append_right _ (mem_pinsAt hb e)))
          ⟨z.1, z.2.1⟩
        have hl : σw.length = σ8.length := by rw [← hw8, wipe_length]
        refine ih m' hm (i + 1) n' s0' s'' H' (by omega) (inv_woken ((I'.unpinned (pins := p0)).weak hl (fun j v e => ?_)) wk) (T.keep _ _ _ st7 fun b hb o e => wk.2.2 b o (pin' b hb o e).1) (fun b hb => ?_) w'
        · rw [← hw8] at e
          exact (wipe_some e).1
        · obtain ⟨o, e, _⟩ := T.obj _ _ st7 b hb
          exact (pin' b hb o e).2
      have wk0 : ∀ {s' : Shared} {H' : Hp} {pl : List (Addr × Obj)} {σ' : L2.St}, Inv (gen X s3 H3 cenv fp (A.deeper cenv)) pl σ' H' s' → Woken s' s' := fun I' => ⟨rfl, I'.bare, fun _ _ e => e⟩
      cases b with
      | false =>
        simp only [Bool.false_eq_true, if_false] at q9 ⊢
        exact seg_again rfl (fin I9 (wk0 I9) q9 (by omega))
      | true =>
        simp only [if_true] at q9 ⊢
        have hy : ∀ v, yieldOut cenv v = yieldValue v := fun v => by simp only [yieldOut, hco, Bool.false_eq_true, if_false]
        simp only [hy]
        rw [Sem.bind_eq_wrap', Sem.bind_eq_wrap', Sem.wrap_wrap, Sem.wrap_wrap]
        refine seg_wrap ?_
        rw [ov]
        refine thnF (pe.run _ s9 σ8 H9 _ I9 q9) fun z s10 ⟨yv, H10, I10, r10, k, hk, nx⟩ => ?_
        subst hk
        cases (show z = Value.bool k from r10)
        refine seg_at (seg_yield rfl rfl rfl ⟨k, σ8, H10, rfl, I10.unpinned, fun hk s'' wk => ?_, fun hk => ?_⟩)
        · rw [if_pos hk] at nx
          exact seg_again rfl (fin I10 wk nx (by omega))
        · rw [hk] at nx
          simpa using nx
theorem seg_allStart {elt tg iter : Expr} {ifs : List Expr} {scope : Scope} {pos : Pos} {it : Addr} {fp : List Addr} {tn : Nat → Heap → Prop} {J : It} {W : Nat → Nat → Hp → Prop} {σw : L2.St} {vs : List Nat} {A : Around} {cenv : Env} {s3 : Shared} {H3 : Hp} {p0 : List (Addr × Obj)} {Qt Qf : Hp → Prop} {g : TG} {tt : TT} {te : TE}
    (hc : X.calm = true) (hco : cenv.scope.isCoroutine = false) (T : Turn X.prog X.w X.K tg J fp it tn) (hp0 : ∀ p ∈ p0, p.1 ∉ fp)
    (pg : PG (gen X s3 H3 cenv fp (A.deeper cenv)) tg g) (pt : PTs (gen X s3 H3 cenv fp (A.deeper cenv)) ifs tt) (pe : PE (gen X s3 H3 cenv fp (A.deeper cenv)) elt te) (turn : AllTurns J g tt te vs σw W Qt Qf)
    (m n : Nat) (s₀ s : Shared) (H : Hp) (hmn : m < n) (I : Inv (gen X s3 H3 cenv fp (A.deeper cenv)) p0 σw H s) (st : tn 0 s.heap) (nf : ∀ b ∈ fp, H b = none) (w : W 0 m H) :
      Seg (model X.prog X.w) A (RAll (gen X s3 H3 cenv fp (A.deeper cenv)) p0 Qt) (YAll (gen X s3 H3 cenv fp (A.deeper cenv)) p0 Qf) n s₀ (.compStart (.GeneratorExp elt [⟨tg, iter, ifs, 0⟩] scope pos) 0 (.ref it) .none cenv)
        ((model X.prog X.w).den (.compStart (.GeneratorExp elt [⟨tg, iter, ifs, 0⟩] scope pos) 0 (.ref it) .none cenv)) [] s := by
  have loop := fun s₀ => seg_all (iter := iter) (scope := scope) (pos := pos) hc hco T hp0 pg pt pe turn m 0 n s₀ s H hmn I st nf w
  show Seg _ A _ _ _ s₀ _ ((compStart (.GeneratorExp elt [⟨tg, iter, ifs, 0⟩] scope pos) 0 (.ref it) .none cenv).onRaise (leaving cenv)) [] s
  unfold compStart
  rw [Sem.onRaise_eq_wrap]
  show Seg _ A _ _ _ s₀ _ ((ask >>= _).wrap _ _ _ _) [] s
  refine seg_bind_wrap (wpAny_askSetting ?_)
  split
  · exact seg_again rfl (loop s₀)
  · first
      | exact seg_bind_wrap (wpAny_rule (seg_bind_wrap (wpAny_standAt (seg_bind_wrap (T.self _ 0 s _ _ st (seg_again rfl (loop s₀)))))))
      | (refine seg_bind_wrap (wpAny_rule ?_); show Seg _ A _ _ _ s₀ _ ((standAt iter.pos >>= _).wrap _ _ _ _) [] s; exact seg_bind_wrap (wpAny_standAt (seg_bind_wrap (T.self _ 0 s _ _ st (seg_again rfl (loop s₀))))))
theorem wk_setGen {s s1 : Shared} {g : Nat} {x : GenState} (w : Woken s s1) (hx : x.bare = true) : Woken s (s1.setGen g x) := ⟨w.1, allBare_setGen w.2.1 hx, w.2.2⟩
/-- the loop of all over such a generator -/
theorem all_loop {G : Cx} {p0 : List (Addr × Obj)} {Qt Qf : Hp → Prop} {A : Around} {R : Result → Shared → Prop} {a : Addr} {g : Nat} {oa : Obj} (hh : A.handled = none) (hd : A.depth < recursionLimit)
    (hpa : (a, oa) ∈ p0) (hga : ∀ h : Heap, h.get? a = some oa → h.IsGen a g)
    (hT : ∀ s1 s' σ2 H, Inv G p0 σ2 H s1 → Qt H → Woken s1 s' → R (.ok (.ret (.bool true))) s') (hF : ∀ s1 s' σ2 H, Inv G p0 σ2 H s1 → Qf H → Woken s1 s' → R (.ok (.ret (.bool false))) s') :
    ∀ (n : Nat) (s : Shared), s.heap.IsGen a g → s.heap.NoLimit →
      (∃ gs, s.gens[g]? = some gs ∧ gs.Goes (model G.prog G.w) A.in1.in1 (RAll G p0 Qt) (YAll G p0 Qf) n (.send .none) (s.setGen g .running)) →
      codeAny (model G.prog G.w) A (.builtin "all.loop" ⟨[.ref a], []⟩) R s := by
  intro n
  induction n with
  | zero =>
    intro s hg hl ⟨gs, hgs, hgo⟩
    refine codeAny_builtin F.entry_all_loop ?_
    rw [Around.under_plainId F.plain_all_loop _]
    show wpAny _ A.in1 (pyNext (.ref a) >>= _) _ _ s
    refine wpAny_bind (next_genG (A := A.in1) (F := FAll G p0 Qt) (Er := fun _ _ => False) hh hl hd hg hgs hgo (fun v s₁ gs' hbare hv => ?_) (fun s₁ hp h' hk => ?_) fun e s₁ he => he.elim)
    · obtain ⟨k, σ2, H, rfl, I, hk1, hk0⟩ := hv
      cases k with
      | true => exact (hk1 rfl s₁ ⟨rfl, I.bare, fun _ _ e => e⟩).elim
      | false =>
        show wpAny _ A.in1 (holding [Value.bool false] (truthy (.bool false)) >>= _) _ _ _
        refine wpAny_bind (wpAny_holding (wpAny_truthy_bool ?_))
        refine wpAny_bind (wpAny_letGo ?_)
        simp only [Bool.false_eq_true, if_false]
        refine wpAny_bind (wpAny_rule (wpAny_pure ?_))
        exact hF s₁ _ σ2 H I (hk0 rfl) (wk_setGen ⟨rfl, I.bare, fun _ _ e => e⟩ hbare)
    · obtain ⟨σ2, H, I, hq⟩ := hp
      refine wpAny_bind (wpAny_rule (wpAny_pure ?_))
      exact hT s₁ _ σ2 H I hq ⟨rfl, allBare_setGen I.bare rfl, hk⟩
  | succ n ih =>
    intro s hg hl ⟨gs, hgs, hgo⟩
    have hgl : g < s.gens.size := (Array.getElem?_eq_some_iff.mp hgs).1
    refine codeAny_builtin F.entry_all_loop ?_
    rw [Around.under_plainId F.plain_all_loop _]
    show wpAny _ A.in1 (pyNext (.ref a) >>= _) _ _ s
    refine wpAny_bind (wpAny_gsz (n := g + 1) hgl (next_genG (A := A.in1) (F := FAll G p0 Qt) (Er := fun _ _ => False) hh hl hd hg hgs hgo (fun v s₁ gs' hbare hv => ?_) (fun s₁ hp h' hk => ?_) fun e s₁ he => he.elim))
    · intro hsz
      obtain ⟨k, σ2, H, rfl, I, hk1, hk0⟩ := hv
      show wpAny _ A.in1 (holding [Value.bool k] (truthy (.bool k)) >>= _) _ _ _
      refine wpAny_bind (wpAny_holding (wpAny_truthy_bool ?_))
      refine wpAny_bind (wpAny_letGo ?_)
      have hsz1 : g < s₁.gens.size := by
        have q : (s₁.setGen g gs').gens.size = s₁.gens.size := setGen_size _ _ _
        have hsz' : g + 1 ≤ (s₁.setGen g gs').gens.size := hsz
        omega
      have w1 : Woken s₁ (s₁.setGen g gs') := wk_setGen ⟨rfl, I.bare, fun _ _ e => e⟩ hbare
      cases k with
      | true =>
        simp only [if_true]
        have ha : (s₁.setGen g gs').heap.get? a = some oa := (I.pin (a, oa) (List.mem_append_right _ hpa)).1
        refine wpAny_pure ⟨plainId_quiet F.plain_all_loop _, ih (s₁.setGen g gs') (hga _ ha) I.nolimit ⟨gs', setGen_at hsz1, hk1 rfl _ (wk_setGen w1 rfl)⟩⟩
      | false =>
        simp only [Bool.false_eq_true, if_false]
        refine wpAny_bind (wpAny_rule (wpAny_pure ?_))
        exact hF s₁ _ σ2 H I (hk0 rfl) w1
    · intro hsz
      obtain ⟨σ2, H, I, hq⟩ := hp
      refine wpAny_bind (wpAny_rule (wpAny_pure ?_))
      exact hT s₁ _ σ2 H I hq ⟨rfl, allBare_setGen I.bare rfl, hk⟩
/-- all(test for x in e): the element any expression of the layer -/
def tAllG (P : Addr) (wi : TI) (g : TG) (tt : TT) (te : TE) (vs : List Nat) : TE := fun σ H Q => wi σ H fun J H1 => TabG H1 P ∧ ∀ H2, Tabbed P H1 H2 →
  ∃ W : Nat → Nat → Hp → Prop, (∃ m, W 0 m H2) ∧ AllTurns J g tt te vs (wipe σ vs) W (fun H => Q (.bl true) H) (fun H => Q (.bl false) H)
/-- the generator expression's own scope -/
structure GScp (scope : Scope) : Prop where
  co : scope.isCoroutine = false
  nc : ∀ y ∈ scope.names, y.2 ≠ .cell
  dot : scope.names.lookup (".0" : Str) = some NameKind.local
theorem pe_all {c P : Addr} {elt tg iter : Expr} {ifs : List Expr} {scope : Scope} {own : List (Str × Nat)} {p pos gpos : Pos} {wi : TI} {g : TG} {tt : TT} {te : TE} {k : Nat}
    (hr : Room (k + 4) X.A) (hgl : Gl X "all") (hm : X.mg "all" = none) (TB : TabB X.base X.mg c P) (hcode : X.env.code = .ref c) (hc : X.calm = true) (hN : X.N.Nodup) (hi : PI X tg iter wi) (ok : BlkOk X.N X.env.scope scope own) (S : GScp scope)
    (hg : ∀ (s : Shared) (H : Hp) (C : Addr) (cl : List (Str × Addr)) (code : Value) (fp : List Addr) (A : Around), Room k A → PG (gen X s H (genEnv scope cl C code builtinsNs X.env) fp A) tg g)
    (ht : ∀ (s : Shared) (H : Hp) (C : Addr) (cl : List (Str × Addr)) (code : Value) (fp : List Addr) (A : Around), Room k A → PTs (gen X s H (genEnv scope cl C code builtinsNs X.env) fp A) ifs tt)
    (he : ∀ (s : Shared) (H : Hp) (C : Addr) (cl : List (Str × Addr)) (code : Value) (fp : List Addr) (A : Around), Room k A → PE (gen X s H (genEnv scope cl C code builtinsNs X.env) fp A) elt te)
    (hs : ∀ v, genFold iter X.env v = pure v)
    (hst : starEach [.GeneratorExp elt [⟨tg, iter, ifs, 0⟩] scope gpos] X.env = (false, eval (.GeneratorExp elt [⟨tg, iter, ifs, 0⟩] scope gpos) X.env) :: starEach [] X.env := by rfl) :
    PE X (.Call (.Name "all" p) [.GeneratorExp elt [⟨tg, iter, ifs, 0⟩] scope gpos] [] pos) (tAllG P wi g tt te (own.map (·.2))) := by
  refine ⟨fun pins s σ H Q I h => ?_⟩
  have hfree : ∀ y ∈ scope.names, y.2 = .free → ∃ c, X.env.cells.lookup y.1 = some c := fun y hy e => by
    rcases ok.free y hy e with k | k
    · exact I.ok.has _ (.inl k)
    · exact I.ok.has _ (.inr k)
  refine wpAny_Call_Name_kw (ld_blt I hgl hm (by decide +kernel : bootBuiltins "all" = some (.builtin "all")) ?_)
  refine PyProof.Rows.callWith_builtin1 ?_ hst (by rfl)
  rw [hst]
  show wpAny _ _ (spliced ((false, eval (.GeneratorExp elt [⟨tg, iter, ifs, 0⟩] scope gpos) X.env) :: backTo pos (starEach [] X.env))) _ _ s
  refine Calls.spliced_cons ?_
  refine wpAny_GeneratorExp_make S.co (closure_ok hfree) S.nc S.dot ok.kind (by have := hr.dp; omega) ?_ hs
  refine thn (hi.run pins s σ H _ I h) fun xv s1 hx => thn hx fun itv s2 h2 => ?_
  obtain ⟨it, fp, tn, J, H2, e, I2, T, st2, f2, ⟨ps, hP, ht0⟩, q⟩ := h2
  subst e
  refine ⟨I2.nolimit, ?_⟩
  have hPs : s2.heap.get? P = some { cls := .none, data := .fields ps } := I2.hok P _ hP
  have cd : PySem.W.CodeHd s2.heap c P := TB.code.keeps fun b u e => I2.bk b u e
  have fpP : ∀ b ∈ fp, b ≠ P := fun b hb z => by
    have := (f2 b hb).1
    rw [z, hP] at this
    cases this
  have sz : ∀ b ∈ fp, b < s2.heap.objs.size := fun b hb => by
    obtain ⟨o, e, _⟩ := T.obj _ _ st2 b hb
    exact Heap.lt_size e
  have cont : ∀ (code : Value) (h3 : Heap) (tk : Nat) (ps' : Array Value), Heap.ExtBut P s2.heap h3 → s2.heap.objs.size ≤ h3.objs.size → h3.get? P = some { cls := .none, data := .fields ps' } → (∃ more, ps' = ps ++ more) → TriplesOk ps'.toList →
      wpAny (model X.prog X.w) X.A (builtinsFor X.env.globals X.env.builtins) (fun bi s₄ =>
        ∀ h', h'.Ns s₄.heap.objs.size (fun y => if y = ".0" then some (.ref it) else none) → Heap.SameBut s₄.heap.objs.size (s₄.heap.push { cls := .type "frame", data := .dict #[] }) h' →
          wpAny (model X.prog X.w) X.A (spliced (backTo pos (starEach [] X.env))) (fun vs s₁ => wpAny (model X.prog X.w) X.A (call (.builtin "all") (.ref h'.objs.size :: vs)) (EP X pins σ Q) X.xe s₁) X.xe { s₄ with
            gens := s₄.gens.push (.fresh (.compStart (.GeneratorExp elt [⟨tg, iter, ifs, 0⟩] scope gpos) 0 (.ref it) .none (genEnv scope (cloFrom X.env.cells scope.names []) s₄.heap.objs.size code bi X.env))),
            toks := s₄.toks + 1 + 1 + 1,
            heap := h'.push { cls := .type "generator", data := .fields #[.int s₄.gens.size 0, .str "<genexpr>" (s₄.toks + 1), .str (X.env.qual ++ "<genexpr>") (s₄.toks + 1 + 1)] } }) X.xe { s2 with heap := h3, toks := tk } := by
    intro code h3 tk ps' hx hsz hP3 hmore ht3
    obtain ⟨more, rfl⟩ := hmore
    obtain ⟨bm, ob, e1, e2, e3, e4, e5, e6, e7, e8⟩ := TB.bm
    have keep3 : ∀ b u, b ≠ P → s2.heap.get? b = some u → h3.get? b = some u := fun b u hb e => hx b u hb e
    refine wpAny_builtinsFor (m := X.mg) (by rw [I2.ok.glob]; exact (I2.mod.glob.keeps I2.bk).extBut hx TB.gP) e1 e2 (keep3 _ _ e4 (I2.bk _ _ e5)) e6 e7 e8 ?_
    generalize hs4 : ({ s2 with heap := h3, toks := tk } : Shared) = s4
    have h4h : s4.heap = h3 := by rw [← hs4]
    have I4 : Inv X pins σ (upd H2 P (.tbl (ps ++ more))) s4 := by
      rw [← hs4]
      exact inv_tab (more := more) (h' := h3) (g' := s2.gens) (d' := s2.drawn) (t' := tk) I2 hP keep3 hP3 I2.bare
    have hT2 : Tabbed P H2 (upd H2 P (.tbl (ps ++ more))) := ⟨⟨_, upd_same, ht3⟩, fun b hb => upd_ne hb⟩
    obtain ⟨W, ⟨m0, w0⟩, turn⟩ := q _ hT2
    generalize hH4 : upd H2 P (.tbl (ps ++ more)) = H4 at I4 w0
    have f4 : ∀ b ∈ fp, FpOk X pins H4 b ∧ b < s4.heap.objs.size := fun b hb => by
      refine ⟨⟨?_, (f2 b hb).2⟩, by rw [h4h]; exact Nat.lt_of_lt_of_le (sz b hb) hsz⟩
      rw [← hH4, upd_ne (fpP b hb)]
      exact (f2 b hb).1
    have st4 : tn 0 s4.heap := T.keep _ _ _ st2 fun b hb o e => by rw [h4h]; exact keep3 b o (fpP b hb) e
    intro h' hn' hs'
    have hsz' : h'.objs.size = s4.heap.objs.size + 1 := by rw [hs'.1, Heap.size_push]
    have keep' : ∀ b o, s4.heap.get? b = some o → h'.get? b = some o := fun b o e => hs'.extBut b o (Nat.ne_of_lt (Heap.lt_size e)) (Heap.get?_push_of_some _ e)
    generalize hoa : ({ cls := .type "generator", data := .fields #[.int s4.gens.size 0, .str "<genexpr>" (s4.toks + 1), .str (X.env.qual ++ "<genexpr>") (s4.toks + 1 + 1)] } : Obj) = oa
    generalize hcenv : genEnv scope (cloFrom X.env.cells scope.names []) s4.heap.objs.size code builtinsNs X.env = cenv
    generalize hs5 : ({ s4 with gens := s4.gens.push (.fresh (.compStart (.GeneratorExp elt [⟨tg, iter, ifs, 0⟩] scope gpos) 0 (.ref it) .none cenv)), toks := s4.toks + 1 + 1 + 1, heap := h'.push oa } : Shared) = s5
    have h5h : s5.heap = h'.push oa := by rw [← hs5]
    have kp5 : ∀ b o, s4.heap.get? b = some o → s5.heap.get? b = some o := fun b o e => by rw [h5h]; exact Heap.get?_push_of_some _ (keep' b o e)
    have ha5 : s5.heap.get? h'.objs.size = some oa := by rw [h5h]; exact Heap.get?_push_size _ (by rw [← hoa]; rfl)
    have g5 : s5.gens[s4.gens.size]? = some (.fresh (.compStart (.GeneratorExp elt [⟨tg, iter, ifs, 0⟩] scope gpos) 0 (.ref it) .none cenv)) := by rw [← hs5]; exact Array.getElem?_push_size ..
    have b5 : AllBare s5.gens := by rw [← hs5]; exact I4.bare.push rfl
    have isg : ∀ h : Heap, h.get? h'.objs.size = some oa → h.IsGen h'.objs.size s4.gens.size := fun h e => by
      rw [← hoa] at e
      exact ⟨_, _, _, e, rfl, rfl, rfl⟩
    refine Calls.spliced_nil ?_
    refine call_function_tree F.kind_all F.plain_all F.entry_all (F.args_all1 _) ?_
    unfold Builtin.«all»
    refine wpAny_bind (m := oneArg "all" _) (wpAny_pure ?_)
    refine wpAny_bind (wpAny_pyIter_gen (isg _ ha5) ?_)
    have back : ∀ s1 s' σ2 H', Inv (gen X s4 H4 cenv fp (X.A.in1.in1.deeper cenv)) [(h'.objs.size, oa)] σ2 H' s1 → Woken s1 s' → Inv X pins σ H' s' := fun s1 s' σ2 H' I1 wk =>
      inv_woken (I4.call' (ch := fp) I1.os I1.base I1.hok I1.bare fun b hb => ⟨(f4 b hb).1.2.2.2.1, (f4 b hb).1.2.1, (f4 b hb).1.2.2.2.2.1, (f4 b hb).1.2.2.2.2.2⟩) wk
    have frm : (X.A.in1.in1.deeper cenv).frames = some (cenv :: X.stack) := Around.frames_deeper I4.ok.frames
    have hrA : Room k (X.A.in1.in1.deeper cenv) := ((((hr.mono (by omega : k + 3 ≤ k + 4)).in1).in1).deeper cenv)
    have I5 : Inv (gen X s4 H4 cenv fp (X.A.in1.in1.deeper cenv)) [] (wipe σ (own.map (·.2))) H4 (s5.setGen s4.gens.size .running) :=
      gen_start (s5 := s5.setGen s4.gens.size .running) I4 ok hN S.nc f4 hcenv.symm frm hrA.hd (by rw [← hs5]; rfl) (allBare_setGen b5 rfl) kp5 (show Heap.Ns s5.heap s4.heap.objs.size _ by rw [h5h]; exact hn'.push _)
    have I6 : Inv (gen X s4 H4 cenv fp (X.A.in1.in1.deeper cenv)) [(h'.objs.size, oa)] (wipe σ (own.map (·.2))) H4 (s5.setGen s4.gens.size .running) := I5.pins_of fun p hp => by
      have ep : p = (h'.objs.size, oa) := List.mem_singleton.mp hp
      subst ep
      have hge : s4.heap.objs.size ≤ h'.objs.size := by omega
      refine ⟨ha5, I4.hok.fresh hge, ?_, fun z => ?_, fun v z => ?_⟩
      · show h'.objs.size ≠ cenv.locals
        rw [← hcenv]
        show h'.objs.size ≠ s4.heap.objs.size
        omega
      · rcases List.mem_cons.mp (I4.stkSub _ z) with z | z
        · have hlt : h'.objs.size < s4.heap.objs.size := by
            rw [show h'.objs.size = X.env.locals from z]
            exact I4.lt
          exact absurd (Nat.lt_of_lt_of_le hlt hge) (Nat.lt_irrefl _)
        · exact I4.nofs hge z
      · rw [← hoa] at z
        cases z
    have hnf : ∀ b ∈ fp, H4 b = none := fun b hb => (f4 b hb).1.1
    have seg := seg_allStart (iter := iter) (scope := scope) (pos := gpos) (A := X.A.in1.in1) (p0 := [(h'.objs.size, oa)]) hc (by rw [← hcenv]; exact S.co) T (fun p hp z => by
        rw [List.mem_singleton.mp hp] at z
        have := (f4 _ z).2
        have hge : s4.heap.objs.size ≤ h'.objs.size := by omega
        exact absurd (Nat.lt_of_lt_of_le this hge) (Nat.lt_irrefl _))
      (by rw [← hcenv]; exact hg s4 H4 _ _ code fp _ (by rw [hcenv]; exact hrA)) (by rw [← hcenv]; exact ht s4 H4 _ _ code fp _ (by rw [hcenv]; exact hrA)) (by rw [← hcenv]; exact he s4 H4 _ _ code fp _ (by rw [hcenv]; exact hrA))
      turn m0 (m0 + 1) (s5.setGen s4.gens.size .running) (s5.setGen s4.gens.size .running) H4 (by omega) I6 (T.keep _ _ _ st4 fun b _ o e => kp5 b o e) hnf w0
    refine wpAny_pure ⟨plainId_quiet F.plain_all_loop _, ?_⟩
    refine all_loop (G := gen X s4 H4 cenv fp (X.A.in1.in1.deeper cenv)) (p0 := [(h'.objs.size, oa)]) (A := X.A) (Qt := fun H => Q (.bl true) H) (Qf := fun H => Q (.bl false) H) hr.hd (by have := hr.dp; omega) (List.mem_singleton.mpr rfl) isg
      (fun s1 s' σ2 H' I1 hq wk => ⟨.bl true, H', back s1 s' σ2 H' I1 wk, rfl, hq⟩) (fun s1 s' σ2 H' I1 hq wk => ⟨.bl false, H', back s1 s' σ2 H' I1 wk, rfl, hq⟩) (m0 + 1) s5 (isg _ ha5) (I4.nolimit.keeps kp5) ⟨_, g5, rfl, seg⟩
  cases hf : codeAmong gpos ps.toList with
  | none =>
    refine wpAny_genexprCodeX hcode (cd.code hPs ht0) (cd.tab hPs) hf fun c' h' tk hx hge hlt hco' _ htab' _ => ?_
    obtain ⟨o1, vs, f1, tf, fl, tg', inF, tx, tt', op, _, _, _, _, _, _, _, _, _, htr, _⟩ := hco'
    exact cont _ h' tk _ hx (Nat.le_trans hge (Nat.le_of_lt hlt)) htab'.2 ⟨_, rfl⟩ htr
  | some cv =>
    refine wpAny_genexprCode_hit hcode (cd.code hPs ht0) hf ?_
    exact cont cv s2.heap s2.toks ps (Heap.ExtBut.refl _ _) (Nat.le_refl _) hPs ⟨#[], by simp⟩ ht0
end
/-! ### a def with its code object; tables -/
theorem okC {P : Program} {w : World} {K : PySem.W.Frag} {mg : Str → Option Value} {base : Heap} {x qual : Str} {params : Arguments} {body : List Stmt} {scope : Scope} {f : Addr} {fd : FuncData} {N ps : List Str} {k : Nat} {sp : Sp} (F : FunD K x qual params body scope [] [] f fd) (S : FnScope N ps scope) (len : ∀ vs H Q E, sp vs H Q E → vs.length = ps.length)
    (hbody : ∀ (A : Around) (outer : List Env) (s : Shared) (H : Hp) (vs : List V) (Q : VK) (E : XK), Room k (A.deeper (envOfC qual scope s.heap.objs.size f fd.code)) → sp vs H Q E →
      ∃ t, PSs (cxOf CX0 P w K mg base N qual scope f fd.code A outer s H E) body t ∧ t { nx := fun _ H' => Q .non H', rt := Q } (start N vs) H) : FnOk P w K mg base CX0 (k + 1) f fd ps sp := by
  obtain ⟨oc, od, dV, kV, doc, pm, an, cdv, ct, osl, rfl, lk, hcd, _, _⟩ := F.ex
  exact fn_of lk hcd S len fun A outer s H vs Q E hr hsp => hbody A outer s H vs Q E hr hsp
theorem tab_get {P b : Addr} {H H' : Hp} {o : HO} (t : Tabbed P H H') (h : H b = some o) (n : ∀ ps, o ≠ .tbl ps) (hP : TabG H P) : H' b = some o := by
  obtain ⟨ps, hp, _⟩ := hP
  rw [t.2 b (ne_of h hp (n ps))]
  exact h
theorem tab_back {P b : Addr} {H H' : Hp} (t : Tabbed P H H') (h : H' b = none) : H b = none := by
  by_cases z : b = P
  · obtain ⟨ps, hp, _⟩ := t.1
    rw [z, hp] at h
    cases h
  · rw [← t.2 b z]
    exact h
theorem tg_same {P : Addr} {H H' : Hp} (h : TabG H P) (e : Same H H') : TabG H' P := by
  obtain ⟨ps, hp, t⟩ := h
  exact ⟨ps, e _ _ hp, t⟩
theorem tg_dr {s P : Addr} {H H' : Hp} (h : TabG H P) (d : Dr s H H') : TabG H' P := by
  obtain ⟨ps, hp, t⟩ := h
  obtain ⟨a, b, c, hs⟩ := d.src0
  exact ⟨ps, d.keep _ _ (ne_of hp hs (by intro z; cases z)) hp, t⟩
theorem tg_tab {P P' : Addr} {H H' : Hp} (h : TabG H P) (t : Tabbed P' H H') : TabG H' P := by
  by_cases z : P = P'
  · rw [z]
    exact t.1
  · obtain ⟨ps, hp, tr⟩ := h
    exact ⟨ps, by rw [t.2 P z]; exact hp, tr⟩
theorem tab_trans {P : Addr} {H H1 H2 : Hp} (a : Tabbed P H H1) (b : Tabbed P H1 H2) : Tabbed P H H2 := ⟨b.1, fun c hc => (b.2 c hc).trans (a.2 c hc)⟩
/-- an element that changes nothing: its truth at each place -/
theorem all_pure {J : It} {g : TG} {te : TE} {vs : List Nat} {σw : L2.St} {H2 : Hp} {Qt Qf : Hp → Prop} (n : Nat) (pr : Nat → Bool) (hgo : ∀ i, i < n → J.go i H2) (hstop : J.stop n H2)
    (hs : ∀ i x H', i < n → J.yld i H2 x H' → ∀ (Q' : VK) (B : Hp → Prop), Q' (.bl (pr i)) H2 → g x σw H' fun σ2 H3 => wipe σ2 vs = σw ∧ tYes σ2 H3 fun b H4 => if b = true then te σ2 H4 Q' else B H4)
    (hT : (∀ i, i < n → pr i = true) → Qt H2) (hF : ∀ i, i < n → pr i = false → Qf H2) : ∃ W : Nat → Nat → Hp → Prop, (∃ m, W 0 m H2) ∧ AllTurns J g tYes te vs σw W Qt Qf := by
  refine ⟨fun i m H => m = n - i ∧ i ≤ n ∧ H2 = H ∧ ∀ j, j < i → pr j = true, ⟨n, rfl, Nat.zero_le _, rfl, fun j h => absurd h (Nat.not_lt_zero _)⟩, ?_⟩
  rintro i m H ⟨rfl, hi, rfl, hp⟩
  by_cases h : i < n
  · refine .inr ⟨hgo i h, fun H' => H2 = H' ∧ pr i = true, fun H' hN => ⟨n - (i + 1), by omega, rfl, h, hN.1, fun j hj => ?_⟩, fun x H' hy => hs i x H' h hy _ _ ⟨pr i, rfl, ?_⟩⟩
    · rcases (show j < i ∨ j = i by omega) with z | z
      · exact hp j z
      · rw [z]
        exact hN.2
    · cases hb : pr i with
      | true => exact ⟨rfl, rfl⟩
      | false => exact hF i h hb
  · have e : i = n := by omega
    subst e
    exact .inl ⟨hstop, hT hp⟩
theorem code_at {K : PySem.W.Frag} {x qual : Str} {params : Arguments} {body : List Stmt} {scope : Scope} {p : Str × Option Str} {fd : FuncData} (F : FunD K x qual params body scope [] [] (He.fAd K p) fd) : fd.code = .ref (He.codeOf K p) := by
  obtain ⟨oc, od, dV, kV, doc, pm, an, cdv, ct, osl, rfl, lk, hcd, _, _⟩ := F.ex
  obtain ⟨c, rfl⟩ := He.codeIn_ref hcd
  rw [He.codeOf_eq lk rfl]
/-! ### list(text) -/
def signsV (z : Str) : List V := z.cps.toList.map fun c => V.str ⟨#[c]⟩
def rListStr : List V → Hp → VK → Prop := fun xs H Q => ∃ z : Str, xs = [.str z] ∧ z.length ≤ sizeLine ∧ ∀ l, H l = none → Q (.ref l) (upd H l (.lst (signsV z)))
theorem call_listStr {X : Cx} (hc : X.calm = true) : CallR X (.type "list") rListStr := by
  intro pins s σ H xs us Q I r h
  obtain ⟨z, rfl, hz, q⟩ := h
  obtain ⟨u, rfl, t, rfl⟩ := vals1 r
  refine call_list_str (I.ok.hd hc) z t (fun h' tk acc' c' hk hS hacc => ?_) (hn := hz)
  refine ⟨.ref s.heap.objs.size, upd H s.heap.objs.size (.lst (signsV z)), I.laid hk (Nat.le_refl _) (show ObjOk X.prog X.w _ _ _ (.lst (signsV z)) from ⟨?_, acc'.toList, c', ?_, ?_⟩), rfl, q _ (I.hok.fresh (Nat.le_refl _))⟩
  · unfold signsV
    rw [List.length_map]
    exact hz
  · have el : acc'.toList.length = acc'.size := by simp
    refine vals_of_at (by unfold signsV; rw [List.length_map, el, hacc.1]; simp) fun j x w h1 h2 => ?_
    obtain ⟨cc, u, hcc, rfl⟩ := hacc.2 j w (by rw [← Array.getElem?_toList]; exact h2)
    unfold signsV at h1
    rw [List.getElem?_map, Array.getElem?_toList, hcc] at h1
    cases h1
    exact ⟨u, rfl⟩
  · rw [Array.toArray_toList]
    exact hS
theorem z_listStr {H : Hp} {Q : VK} {z : Str} (hz : z.length ≤ 1000) (q : ∀ p H', H p = none → Same H H' → H' p = some (.lst (signsV z)) → Q (.ref p) H') : rListStr [.str z] H Q :=
  ⟨z, rfl, Nat.le_of_lt (small1000 hz), fun p hp => q p _ hp (fun b u e => by rw [upd_ne (ne_of_none e hp)]; exact e) upd_same⟩
/-! ### texts -/
def rLeS : R2 := fun x y H Q => ∃ i j, x = .str i ∧ y = .str j ∧ Q (.bl (!decide (j.cps.toList < i.cps.toList))) H
theorem op_leS {X : Cx} : OpR X (compareOp .LtE) rLeS := op_le_str
theorem lt1 (a b : Nat) : decide (([a] : List Nat) < [b]) = decide (a < b) := decide_eq_decide.mpr (by
  constructor
  · intro h
    cases h with
    | rel h => exact h
    | cons h => cases h
  · intro h
    exact List.Lex.rel h)
theorem z_leS {H : Hp} {Q : VK} {c d : Nat} (q : Q (.bl (decide (c ≤ d))) H) : rLeS (.str ⟨#[c]⟩) (.str ⟨#[d]⟩) H Q := ⟨_, _, rfl, rfl, by
  have e : (!decide (([d] : List Nat) < [c])) = decide (c ≤ d) := by
    rw [lt1]
    by_cases h : c ≤ d
    · rw [decide_eq_true h, decide_eq_false (by omega)]
      rfl
    · rw [decide_eq_false h, decide_eq_true (by omega)]
      rfl
  show Q (.bl (!decide (([d] : List Nat) < [c]))) H
  rw [e]
  exact q⟩
theorem z_lenS {K : PySem.W.Frag} {H : Hp} {Q : VK} {z : Str} (hz : z.length ≤ 1000) (q : Q (.int z.length) H) : rLenK K [.str z] H Q := ⟨_, z.length, rfl, ⟨Nat.le_of_lt (small1000 hz), rfl⟩, q⟩
def smB (c : Nat) : Bool := decide (97 ≤ c) && decide (c ≤ 122)
def nmB (z : Str) : Bool := decide (1 ≤ z.length) && (decide (z.length ≤ 8) && z.cps.toList.all smB)
/-- what is no whole number -/
inductive NIv (H : Hp) : V → Prop
  | bl (b : Bool) : NIv H (.bl b)
  | non : NIv H .non
  | str (z : Str) : NIv H (.str z)
  | lst {l : Addr} {xs : List V} : H l = some (.lst xs) → NIv H (.ref l)
  | tup {l : Addr} {xs : List V} : H l = some (.tup xs) → NIv H (.ref l)
  | dct {l : Addr} {kvs : List (Key × V)} : H l = some (.dK kvs) → NIv H (.ref l)
theorem NIv.same {H H' : Hp} {v : V} (h : NIv H v) (e : Same H H') : NIv H' v := by
  cases h with
  | bl b => exact .bl b
  | non => exact .non
  | str z => exact .str z
  | lst h => exact .lst (e _ _ h)
  | tup h => exact .tup (e _ _ h)
  | dct h => exact .dct (e _ _ h)
theorem NIv.tab {P : Addr} {H H' : Hp} {v : V} (h : NIv H v) (e : Tabbed P H H') (hP : TabG H P) : NIv H' v := by
  cases h with
  | bl b => exact .bl b
  | non => exact .non
  | str z => exact .str z
  | lst h => exact .lst (tab_get e h (fun _ z => by cases z) hP)
  | tup h => exact .tup (tab_get e h (fun _ z => by cases z) hP)
  | dct h => exact .dct (tab_get e h (fun _ z => by cases z) hP)
/-- the name of a thing's type, for what is no whole number -/
theorem NIv.ty {K : PySem.W.Frag} {H : Hp} {v : V} (h : NIv H v) : ∃ (n : String) (a b : Bool), TyX K H v (.type n) ∧ kitB n "int" = some a ∧ kitB n "bool" = some b ∧ (a && !b) = false := by
  cases h with
  | bl b => exact ⟨"bool", true, true, .base (.bl b), by decide +kernel, by decide +kernel, rfl⟩
  | non => exact ⟨"NoneType", false, false, .base .non, by decide +kernel, by decide +kernel, rfl⟩
  | str z => exact ⟨"str", false, false, .base (.str z), by decide +kernel, by decide +kernel, rfl⟩
  | lst h => exact ⟨"list", false, false, .base (.lst h), by decide +kernel, by decide +kernel, rfl⟩
  | tup h => exact ⟨"tuple", false, false, .base (.tup h), by decide +kernel, by decide +kernel, rfl⟩
  | dct h => exact ⟨"dict", false, false, .base (.dK h), by decide +kernel, by decide +kernel, rfl⟩
def inFar (n : Int) : Bool := decide (-1000000000000 ≤ n) && decide (n ≤ 1000000000000)
/-- a number within the bounds, or not -/
def OwnV (H : Hp) (x : V) (k : Bool) : Prop := (∃ n, x = .int n ∧ k = inFar n) ∨ (k = false ∧ NIv H x)
theorem OwnV.tab {P : Addr} {H H' : Hp} {v : V} {k : Bool} (h : OwnV H v k) (e : Tabbed P H H') (hP : TabG H P) : OwnV H' v k := by
  rcases h with h | ⟨h1, h2⟩
  · exact .inl h
  · exact .inr ⟨h1, h2.tab e hP⟩
theorem joinS_len : ∀ ys : List Str, (∀ y ∈ ys, y.length ≤ 1) → (Str.join "" ys).length ≤ ys.length
  | [], _ => Nat.le_refl _
  | [y], h => h y (by simp)
  | x :: z :: r, h => by
    have ih := joinS_len (z :: r) fun y hy => h y (List.mem_cons_of_mem _ hy)
    show (x ++ "" ++ Str.join "" (z :: r)).length ≤ _
    rw [Str.length_append, Str.length_append]
    have h1 := h x (by simp)
    have h0 : ("" : Str).length = 0 := rfl
    simp only [List.length_cons] at ih ⊢
    omega
theorem join_len {ys : List Str} (h : ∀ y ∈ ys, y.length ≤ 1) : (Txt.join "" ys).length ≤ ys.length := by
  rw [TL.join_eq]
  exact joinS_len ys h
theorem cutS_len (z : Str) (lo hi : Option Int) : (cutS z lo hi).length ≤ z.length := by
  unfold cutS
  show (List.toArray _).size ≤ _
  rw [List.size_toArray, List.length_take, List.length_drop]
  have : z.cps.toList.length = z.length := by simp [Str.length]
  omega
theorem sum_ones : ∀ {ys : List Str}, (∀ y ∈ ys, y.length ≤ 1) → (ys.map (·.length)).sum ≤ ys.length
  | [], _ => Nat.le_refl _
  | y :: r, h => by
    have ih := sum_ones (ys := r) fun z hz => h z (List.mem_cons_of_mem _ hz)
    have h1 := h y (by simp)
    simp only [List.map_cons, List.sum_cons, List.length_cons]
    omega
theorem z_cutS {H : Hp} {Q : VK} {z : Str} {lo hi : Option Int} (hz : z.length ≤ 1000) (q : Q (.str (cutS z lo hi)) H) : rSlS (.str z) lo hi H Q := ⟨z, rfl, Nat.le_of_lt (small1000 hz), q⟩
/-! ### lists of ints as data -/
theorem dpInts {K : PySem.W.Frag} {H : Hp} : ∀ ns : List Int, DpAll K H (ns.map V.int) (ns.map PyData.int)
  | [] => .nil
  | n :: r => .cons (.int n) (dpInts r)
theorem eqv_nil (ns : List Int) : PyData.eqv (.list (ns.map PyData.int)) (.list []) = ns.isEmpty := by
  cases ns with
  | nil => rfl
  | cons n r => simp [PyData.eqv, PyData.eqvAll]
theorem sh_ints {ns : List Int} (h : ns.length ≤ 4) : SeqAt.shaped (.list (ns.map PyData.int)) = true := by
  rcases ns with _ | ⟨a, _ | ⟨b, _ | ⟨c, _ | ⟨d, _ | ⟨e, r⟩⟩⟩⟩⟩
  · rfl
  · rfl
  · rfl
  · rfl
  · rfl
  · simp at h
theorem NIv.dr {s : Addr} {H H' : Hp} {v : V} (h : NIv H v) (d : Dr s H H') (n : v ≠ .ref s) : NIv H' v := by
  cases h with
  | bl b => exact .bl b
  | non => exact .non
  | str z => exact .str z
  | lst h => exact .lst (d.keep _ _ (fun z => n (by rw [z])) h)
  | tup h => exact .tup (d.keep _ _ (fun z => n (by rw [z])) h)
  | dct h => exact .dct (d.keep _ _ (fun z => n (by rw [z])) h)
theorem z_tupleL {K : PySem.W.Frag} {H : Hp} {Q : VK} {p : Addr} {xs : List V} (h : H p = some (.lst xs)) (q : ∀ p' H', H p' = none → Same H H' → H' p' = some (.tup xs) → Q (.ref p') H') : rTupleK K [.ref p] H Q :=
  ⟨p, xs, rfl, .inl ⟨SqL.of h, fun p' hp => q p' _ hp (fun b u e => by rw [upd_ne (ne_of_none e hp)]; exact e) upd_same⟩⟩
/-- everything but tables is kept -/
def Kp (H H' : Hp) : Prop := ∀ b o, (∀ ps, o ≠ .tbl ps) → H b = some o → H' b = some o
theorem Kp.of_same {H H' : Hp} (e : Same H H') : Kp H H' := fun b o _ h => e b o h
theorem Kp.of_tab {P : Addr} {H H' : Hp} (e : Tabbed P H H') (hP : TabG H P) : Kp H H' := fun b o n h => tab_get e h n hP
theorem Kp.trans {H H1 H2 : Hp} (a : Kp H H1) (b : Kp H1 H2) : Kp H H2 := fun c o n h => b c o n (a c o n h)
theorem Kp.refl (H : Hp) : Kp H H := fun _ _ _ h => h
theorem Kp.tup {H H' : Hp} {b : Addr} {xs : List V} (a : Kp H H') (h : H b = some (.tup xs)) : H' b = some (.tup xs) := a _ _ (fun _ z => by cases z) h
theorem Kp.lst {H H' : Hp} {b : Addr} {xs : List V} (a : Kp H H') (h : H b = some (.lst xs)) : H' b = some (.lst xs) := a _ _ (fun _ z => by cases z) h
theorem Kp.dct {H H' : Hp} {b : Addr} {xs : List (Key × V)} (a : Kp H H') (h : H b = some (.dK xs)) : H' b = some (.dK xs) := a _ _ (fun _ z => by cases z) h
theorem Src.kp {H H' : Hp} {s : Addr} (h : Src H s) (a : Kp H H') : Src H' s := by
  obtain ⟨x, y, z, h⟩ := h
  exact ⟨x, y, z, a.lst h⟩
theorem NIv.kp {H H' : Hp} {v : V} (h : NIv H v) (a : Kp H H') : NIv H' v := by
  cases h with
  | bl b => exact .bl b
  | non => exact .non
  | str z => exact .str z
  | lst h => exact .lst (a.lst h)
  | tup h => exact .tup (a.tup h)
  | dct h => exact .dct (a.dct h)
theorem OwnV.kp {H H' : Hp} {v : V} {k : Bool} (h : OwnV H v k) (a : Kp H H') : OwnV H' v k := by
  rcases h with h | ⟨h1, h2⟩
  · exact .inl h
  · exact .inr ⟨h1, h2.kp a⟩
theorem z_disp1 {σ : L2.St} {H : Hp} {Q : VK} {ta tb : TE} {k : Key} {v : V} (ha : ∀ (H' : Hp) (Q' : VK), Q' (kV k) H' → ta σ H' Q') (hb : ∀ (H' : Hp) (Q' : VK), Q' v H' → tb σ H' Q')
    (q : ∀ p H' kvs, H p = none → Same H H' → H' p = some (.dK kvs) → Q (.ref p) H') : tDisp [(ta, tb)] σ H Q := fun p hp => by
  refine ha _ _ (hb _ _ ⟨upd_same, [(k, v)], rfl, by simp, q p _ _ hp (fun b u e => ?_) upd_same⟩)
  have n := ne_of_none e hp
  rw [upd_ne n, upd_ne n]
  exact e
end Zk
set_option Elab.async false
set_option linter.all false
set_option maxRecDepth 100000
set_option maxHeartbeats 2000000
/-! tuple(.. for .. in ..): the list that gathers the items is tracked, as in a list comprehension. -/
namespace Zk
open PySem PySem.Spec PyProof.Rows L2 GenW GxR
section
variable {X : Cx} {pins : List (Addr × Obj)} {σ : L2.St} {H : Hp} {s : Shared}
/-- an item was put behind the list at S -/
def Pushed (G : Cx) (S : Addr) (xs : List V) (y : V) (s s'' : Shared) : Prop := ∀ pins σ H, Inv G pins σ H s → H S = some (.lst xs) → Inv G pins σ (upd H S (.lst (xs ++ [y]))) s''
def YTup (G : Cx) (p0 : List (Addr × Obj)) (S : Addr) : Protocol := fun _ _ v s kap =>
  ∃ (σ2 : L2.St) (H : Hp) (xs : List V) (y : V), RelV y v ∧ Inv G p0 σ2 H s ∧ H S = some (.lst xs) ∧ xs.length < sizeLine ∧ ∀ s'', Pushed G S xs y s s'' → kap (.send .none) s''
def FTup (G : Cx) (p0 : List (Addr × Obj)) (Qe : Hp → Prop) : Nat → Shared → Shared → Prop := fun _ _ s => ∃ (σ2 : L2.St) (H : Hp), Inv G p0 σ2 H s ∧ Qe H
def RTup (G : Cx) (p0 : List (Addr × Obj)) (Qe : Hp → Prop) : GenEnd := fun n s₀ r s₁ => ((r = .ok (.ret .none) ∨ r = .ok .next) ∧ FTup G p0 Qe n s₀ s₁) ∨ ∃ e, r = .error e ∧ (fun (_ : Value) (_ : Shared) => False) e s₁
/-- what the loop's turns ask -/
def TupTurns (J : It) (g : TG) (tt : TT) (te : TE) (vs : List Nat) (σw : L2.St) (S : Addr) (W : Nat → Nat → Hp → Prop) (Qe : Hp → Prop) : Prop :=
  ∀ i m H, W i m H → (J.stop i H ∧ Qe H) ∨ (J.go i H ∧ ∃ Nx : Hp → Prop, (∀ H', Nx H' → ∃ m', m' < m ∧ W (i + 1) m' H') ∧ ∀ x H', J.yld i H x H' → g x σw H' fun σ2 H2 => wipe σ2 vs = σw ∧ tt σ2 H2 fun b H3 =>
    if b = true then te σ2 H3 fun y H4 => ∃ xs, H4 S = some (.lst xs) ∧ xs.length < sizeLine ∧ Nx (upd H4 S (.lst (xs ++ [y]))) else Nx H3)
theorem seg_tup {elt tg iter : Expr} {ifs : List Expr} {scope : Scope} {pos : Pos} {it S : Addr} {fp : List Addr} {tn : Nat → Heap → Prop} {J : It} {W : Nat → Nat → Hp → Prop} {σw : L2.St} {vs : List Nat} {A : Around} {cenv : Env} {s3 : Shared} {H3 : Hp} {p0 : List (Addr × Obj)} {Qe : Hp → Prop} {g : TG} {tt : TT} {te : TE}
    (hc : X.calm = true) (hco : cenv.scope.isCoroutine = false) (T : Turn X.prog X.w X.K tg J fp it tn) (hp0 : ∀ p ∈ p0, p.1 ∉ fp)
    (pg : PG (gen X s3 H3 cenv fp (A.deeper cenv)) tg g) (pt : PTs (gen X s3 H3 cenv fp (A.deeper cenv)) ifs tt) (pe : PE (gen X s3 H3 cenv fp (A.deeper cenv)) elt te) (turn : TupTurns J g tt te vs σw S W Qe) :
    ∀ (m i n : Nat) (s₀ s : Shared) (H : Hp), m < n → Inv (gen X s3 H3 cenv fp (A.deeper cenv)) p0 σw H s → tn i s.heap → (∀ b ∈ fp, H b = none) → W i m H →
      Seg (model X.prog X.w) A (RTup (gen X s3 H3 cenv fp (A.deeper cenv)) p0 Qe) (YTup (gen X s3 H3 cenv fp (A.deeper cenv)) p0 S) n s₀ (.compLoop (.GeneratorExp elt [⟨tg, iter, ifs, 0⟩] scope pos) 0 (.ref it) .none cenv)
        ((model X.prog X.w).den (.compLoop (.GeneratorExp elt [⟨tg, iter, ifs, 0⟩] scope pos) 0 (.ref it) .none cenv)) [] s := by
  have ov : A.over (.compLoop (.GeneratorExp elt [⟨tg, iter, ifs, 0⟩] scope pos) 0 (.ref it) .none cenv) [] = A.deeper cenv := over_comp ⟨_, _, _, _, rfl⟩
  have stat : ∀ {σ' : L2.St} {H' : Hp} {s' : Shared}, Inv (gen X s3 H3 cenv fp (A.deeper cenv)) p0 σ' H' s' → (∀ b ∈ fp, H' b = none) → ∀ b ∈ fp, FpOk (gen X s3 H3 cenv fp (A.deeper cenv)) p0 H' b := fun {σ' H' s'} I' hn b hb =>
    ⟨hn b hb, (I'.ok.exf b hb).1, I'.ok.exfs b hb, .inl hb, fun x c e => (I'.ok.exf b hb).2 x c e, fun p hp z => by
      rcases List.mem_append.mp hp with hp | hp
      · cases hp
      · exact hp0 p hp (z ▸ hb)⟩
  intro m
  induction m using Nat.strongRecOn with
  | ind m ih =>
    intro i n s₀ s H hmn I st nf w
    obtain ⟨n, rfl⟩ : ∃ k, n = k + 1 := ⟨n - 1, by omega⟩
    show Seg _ A _ _ _ s₀ _ ((compTurn (.GeneratorExp elt [⟨tg, iter, ifs, 0⟩] scope pos) 0 (.ref it) .none cenv).onRaise (leaving cenv)) [] s
    rw [compTurn_gen, Sem.onRaise_eq_wrap]
    refine seg_bind_wrap (wpAny_standAt ?_)
    rcases turn i m H w with ⟨stop, qq⟩ | ⟨go, Nx, hNx, step⟩
    · have td := T.done (gen X s3 H3 cenv fp (A.deeper cenv)) rfl rfl rfl hc i p0 s _ H (fun _ _ => False) I (stat I nf) st stop
      refine seg_bind_wrap ?_
      rw [ov]
      refine thnF td fun r s6 ⟨hr, I6⟩ => ?_
      subst hr
      exact seg_end (.ok .next) (.inl ⟨.inr rfl, _, _, I6, qq⟩)
    · have ti := T.item (gen X s3 H3 cenv fp (A.deeper cenv)) rfl rfl rfl hc i p0 s _ H (fun _ _ => False) I (stat I nf) st go
      refine seg_bind_wrap ?_
      rw [ov]
      refine thnF ti fun r s6 ⟨u, hr, h6⟩ => ?_
      subst hr
      refine seg_bind_wrap ?_
      rw [ov]
      refine thnF h6 fun _ s7 ⟨x, H7, I7, r7, y7, st7, n7⟩ => ?_
      have I7' := I7.pinned (stat I7 n7) (T.obj _ _ st7)
      refine seg_bind_wrap ?_
      rw [ov]
      refine thnF (pg.run _ s7 _ H7 x u _ I7' r7 (step x H7 y7)) fun _ s8 ⟨σ8, H8, I8, hw8, q8⟩ => ?_
      refine seg_bind_wrap ?_
      rw [ov]
      refine thnF (pt.run _ s8 σ8 H8 _ I8 q8) fun b s9 ⟨H9, I9, q9⟩ => ?_
      have fin : ∀ {s' : Shared} {H' : Hp} {n' : Nat} {s0' : Shared}, Inv (gen X s3 H3 cenv fp (A.deeper cenv)) (p0 ++ pinsAt fp s7.heap) σ8 H' s' → Nx H' → m ≤ n' →
          Seg (model X.prog X.w) A (RTup (gen X s3 H3 cenv fp (A.deeper cenv)) p0 Qe) (YTup (gen X s3 H3 cenv fp (A.deeper cenv)) p0 S) n' s0' (.compLoop (.GeneratorExp elt [⟨tg, iter, ifs, 0⟩] scope pos) 0 (.ref it) .none cenv)
            ((model X.prog X.w).den (.compLoop (.GeneratorExp elt [⟨tg, iter, ifs, 0⟩] scope pos) 0 (.ref it) .none cenv)) [] s' := fun {s' H' n' s0'} I' nx hn' => by
        obtain ⟨m', hm, w'⟩ := hNx H' nx
        have pin' : ∀ b ∈ fp, ∀ o, s7.heap.get? b = some o → s'.heap.get? b = some o ∧ H' b = none := fun b hb o e =>
          let z := I'.pin (b, o) (List.mem_append_right _ (List.mem_append_right _ (mem_pinsAt hb e)))
          ⟨z.1, z.2.1⟩
        have hl : σw.length = σ8.length := by rw [← hw8, wipe_length]
        refine ih m' hm (i + 1) n' s0' s' H' (by omega) ((I'.unpinned (pins := p0)).weak hl (fun j v e => ?_)) (T.keep _ _ _ st7 fun b hb o e => (pin' b hb o e).1) (fun b hb => ?_) w'
        · rw [← hw8] at e
          exact (wipe_some e).1
        · obtain ⟨o, e, _⟩ := T.obj _ _ st7 b hb
          exact (pin' b hb o e).2
      cases b with
      | false =>
        simp only [Bool.false_eq_true, if_false] at q9 ⊢
        exact seg_again rfl (fin I9 q9 (by omega))
      | true =>
        simp only [if_true] at q9 ⊢
        have hy : ∀ v, yieldOut cenv v = yieldValue v := fun v => by simp only [yieldOut, hco, Bool.false_eq_true, if_false]
        simp only [hy]
        rw [Sem.bind_eq_wrap', Sem.bind_eq_wrap', Sem.wrap_wrap, Sem.wrap_wrap]
        refine seg_wrap ?_
        rw [ov]
        refine thnF (pe.run _ s9 σ8 H9 _ I9 q9) fun z s10 ⟨yv, H10, I10, r10, xs, hxs, hlt, nx⟩ => ?_
        refine seg_at (seg_yield rfl rfl rfl ⟨σ8, H10, xs, yv, r10, I10.unpinned, hxs, hlt, fun s'' wk => ?_⟩)
        exact seg_again rfl (fin (wk _ _ _ I10 hxs) nx (by omega))
theorem seg_tupStart {elt tg iter : Expr} {ifs : List Expr} {scope : Scope} {pos : Pos} {it S : Addr} {fp : List Addr} {tn : Nat → Heap → Prop} {J : It} {W : Nat → Nat → Hp → Prop} {σw : L2.St} {vs : List Nat} {A : Around} {cenv : Env} {s3 : Shared} {H3 : Hp} {p0 : List (Addr × Obj)} {Qe : Hp → Prop} {g : TG} {tt : TT} {te : TE}
    (hc : X.calm = true) (hco : cenv.scope.isCoroutine = false) (T : Turn X.prog X.w X.K tg J fp it tn) (hp0 : ∀ p ∈ p0, p.1 ∉ fp)
    (pg : PG (gen X s3 H3 cenv fp (A.deeper cenv)) tg g) (pt : PTs (gen X s3 H3 cenv fp (A.deeper cenv)) ifs tt) (pe : PE (gen X s3 H3 cenv fp (A.deeper cenv)) elt te) (turn : TupTurns J g tt te vs σw S W Qe)
    (m n : Nat) (s₀ s : Shared) (H : Hp) (hmn : m < n) (I : Inv (gen X s3 H3 cenv fp (A.deeper cenv)) p0 σw H s) (st : tn 0 s.heap) (nf : ∀ b ∈ fp, H b = none) (w : W 0 m H) :
      Seg (model X.prog X.w) A (RTup (gen X s3 H3 cenv fp (A.deeper cenv)) p0 Qe) (YTup (gen X s3 H3 cenv fp (A.deeper cenv)) p0 S) n s₀ (.compStart (.GeneratorExp elt [⟨tg, iter, ifs, 0⟩] scope pos) 0 (.ref it) .none cenv)
        ((model X.prog X.w).den (.compStart (.GeneratorExp elt [⟨tg, iter, ifs, 0⟩] scope pos) 0 (.ref it) .none cenv)) [] s := by
  have loop := fun s₀ => seg_tup (iter := iter) (scope := scope) (pos := pos) hc hco T hp0 pg pt pe turn m 0 n s₀ s H hmn I st nf w
  show Seg _ A _ _ _ s₀ _ ((compStart (.GeneratorExp elt [⟨tg, iter, ifs, 0⟩] scope pos) 0 (.ref it) .none cenv).onRaise (leaving cenv)) [] s
  unfold compStart
  rw [Sem.onRaise_eq_wrap]
  show Seg _ A _ _ _ s₀ _ ((ask >>= _).wrap _ _ _ _) [] s
  refine seg_bind_wrap (wpAny_askSetting ?_)
  split
  · exact seg_again rfl (loop s₀)
  · first
      | exact seg_bind_wrap (wpAny_rule (seg_bind_wrap (wpAny_standAt (seg_bind_wrap (T.self _ 0 s _ _ st (seg_again rfl (loop s₀)))))))
      | (refine seg_bind_wrap (wpAny_rule ?_); show Seg _ A _ _ _ s₀ _ ((standAt iter.pos >>= _).wrap _ _ _ _) [] s; exact seg_bind_wrap (wpAny_standAt (seg_bind_wrap (T.self _ 0 s _ _ st (seg_again rfl (loop s₀))))))
theorem mapSeq_push (its : List Value) (n : Nat) (u : Value) : ∃ n', Obj.mapSeq (·.push u) { cls := .type "list", data := .seq its.toArray n } = { cls := .type "list", data := .seq (its ++ [u]).toArray n' } := by
  rw [show (its ++ [u]).toArray = its.toArray.push u by simp]
  exact ⟨_, rfl⟩
theorem collect_mono {M : Model} {A : Around} {v : Value} {Q Q' : List Value → Shared → Prop} {E E' : Value → Shared → Prop} {s : Shared} (h : wpAny M A (collect v) Q E s) (hE : ∀ e s', E e s' → E' e s') (hq : ∀ xs s', Q xs s' → Q' xs s') : wpAny M A (collect v) Q' E' s := wpAny_mono h hq hE
/-- the loop that gathers -/
theorem tup_loop {G : Cx} {p0 : List (Addr × Obj)} {Qe : Hp → Prop} {A : Around} {R : Result → Shared → Prop} {a S : Addr} {g : Nat} {oa : Obj} {res : Value} (hh : A.handled = none) (hd : A.depth < recursionLimit)
    (hpa : (a, oa) ∈ p0) (hga : ∀ h : Heap, h.get? a = some oa → h.IsGen a g)
    (hT : ∀ s1 s' σ2 H, Inv G p0 σ2 H s1 → Qe H → Woken s1 s' → R (.ok (.ret res)) s') :
    ∀ (n : Nat) (s : Shared), s.heap.IsGen a g → s.heap.NoLimit →
      (∃ gs, s.gens[g]? = some gs ∧ gs.Goes (model G.prog G.w) A.in1.in1 (RTup G p0 Qe) (YTup G p0 S) n (.send .none) (s.setGen g .running)) →
      codeAny (model G.prog G.w) A (.builtin "list.extend.loop" ⟨[.ref S, .ref a, res], []⟩) R s := by
  have upd1 : ∀ {s₁ s'' : Shared} {σ2 : L2.St} {H : Hp} {xs : List V} {y : V} {v : Value} {its : List Value} {nn : Nat}, Inv G p0 σ2 H s₁ → RelV y v → Vals xs its → s₁.heap.get? S = some { cls := .type "list", data := .seq its.toArray nn } → xs.length < sizeLine →
      s''.heap = s₁.heap.update S (Obj.mapSeq (·.push v)) → s''.os = s₁.os → AllBare s''.gens → Pushed G S xs y s₁ s'' := fun {s₁ s'' σ2 H xs y v its nn} _ ry r ho hlt e1 e2 e3 pins σ H0 I0 h0 => by
    obtain ⟨n', hf⟩ := mapSeq_push its nn v
    exact inv_woken (I0.lstUpd h0 ho hf (r.append (.cons ry .nil)) (by rw [List.length_append]; exact hlt) s₁.toks) ⟨e2, e3, fun b o e => by rw [e1]; exact e⟩
  intro n
  induction n with
  | zero =>
    intro s hg hl ⟨gs, hgs, hgo⟩
    refine codeAny_builtin F.entry_extend_loop ?_
    rw [Around.under_plainId F.plain_extend_loop _]
    show wpAny _ A.in1 (pyNext (.ref a) >>= _) _ _ s
    refine wpAny_bind (next_genG (A := A.in1) (F := FTup G p0 Qe) (Er := fun _ _ => False) hh hl hd hg hgs hgo (fun v s₁ gs' hbare hv => ?_) (fun s₁ hp h' hk => ?_) fun e s₁ he => he.elim)
    · obtain ⟨σ2, H, xs, y, ry, I, hS, hlt, hk⟩ := hv
      obtain ⟨its, nn, r, ho, hz⟩ := I.lst hS
      exact False.elim (hk { s₁ with heap := s₁.heap.update S (Obj.mapSeq (·.push v)) } (upd1 I ry r ho hlt rfl rfl I.bare))
    · obtain ⟨σ2, H, I, hq⟩ := hp
      exact wpAny_pure (hT s₁ _ σ2 H I hq ⟨rfl, allBare_setGen I.bare rfl, hk⟩)
  | succ n ih =>
    intro s hg hl ⟨gs, hgs, hgo⟩
    have hgl : g < s.gens.size := (Array.getElem?_eq_some_iff.mp hgs).1
    refine codeAny_builtin F.entry_extend_loop ?_
    rw [Around.under_plainId F.plain_extend_loop _]
    show wpAny _ A.in1 (pyNext (.ref a) >>= _) _ _ s
    refine wpAny_bind (wpAny_gsz (n := g + 1) hgl (next_genG (A := A.in1) (F := FTup G p0 Qe) (Er := fun _ _ => False) hh hl hd hg hgs hgo (fun v s₁ gs' hbare hv => ?_) (fun s₁ hp h' hk => ?_) fun e s₁ he => he.elim))
    · intro hsz
      obtain ⟨σ2, H, xs, y, ry, I, hS, hlt, hk⟩ := hv
      obtain ⟨its, nn, r, ho, hz⟩ := I.lst hS
      have hsz1 : g < s₁.gens.size := by
        have q : (s₁.setGen g gs').gens.size = s₁.gens.size := setGen_size _ _ _
        have hsz' : g + 1 ≤ (s₁.setGen g gs').gens.size := hsz
        omega
      have hlen := r.length
      have I1 : Inv G p0 σ2 (upd H S (.lst (xs ++ [y]))) { s₁ with heap := s₁.heap.update S (Obj.mapSeq (·.push v)) } := upd1 (s'' := { s₁ with heap := s₁.heap.update S (Obj.mapSeq (·.push v)) }) I ry r ho hlt rfl rfl I.bare _ _ _ I hS
      show wpAny _ A.in1 (updateSeq S (·.push v) >>= _) _ _ _
      refine wpAny_bind ?_
      refine wpAny_updateSeq (s := s₁.setGen g gs') ho rfl (wpAny_pure ⟨plainId_quiet F.plain_extend_loop _, ?_⟩) (by simp only [List.size_toArray]; omega) (by show (its.toArray.push v).size ≤ sizeLine + 1; rw [Array.size_push, List.size_toArray]; omega)
      refine ih { s₁.setGen g gs' with heap := s₁.heap.update S (Obj.mapSeq (·.push v)) } (hga _ (I1.pin (a, oa) (List.mem_append_right _ hpa)).1) I1.nolimit ⟨gs', setGen_at hsz1, hk _ (upd1 I ry r ho hlt rfl rfl (allBare_setGen (s := { s₁.setGen g gs' with heap := _ }) (allBare_setGen I.bare hbare) rfl))⟩
    · intro hsz
      obtain ⟨σ2, H, I, hq⟩ := hp
      exact wpAny_pure (hT s₁ _ σ2 H I hq ⟨rfl, allBare_setGen I.bare rfl, hk⟩)
/-- collect of such a generator -/
theorem collect_genX {G : Cx} {p0 : List (Addr × Obj)} {Qe : Hp → Prop} {A : Around} {Q : List Value → Shared → Prop} {E : Value → Shared → Prop} {a : Addr} {g : Nat} {oa : Obj} {s : Shared} (hh : A.handled = none) (hd : A.depth < recursionLimit)
    (hpa : (a, oa) ∈ p0) (hga : ∀ h : Heap, h.get? a = some oa → h.IsGen a g) (ha : s.heap.get? a = some oa) (hl : s.heap.NoLimit)
    (go : ∀ (h' : Heap) (c : Nat), (∀ b o, s.heap.get? b = some o → h'.get? b = some o) → h'.get? s.heap.objs.size = some { cls := .type "list", data := .seq ([] : List Value).toArray c } →
      ∃ gs n, s.gens[g]? = some gs ∧ gs.Goes (model G.prog G.w) A.in1.in1 (RTup G p0 Qe) (YTup G p0 s.heap.objs.size) n (.send .none) (({ s with heap := h' } : Shared).setGen g .running))
    (hQ : ∀ s1 s' σ2 H, Inv G p0 σ2 H s1 → Qe H → Woken s1 s' → ∃ its n, s'.heap.get? s.heap.objs.size = some { cls := .type "list", data := .seq (its : List Value).toArray n } ∧ Q its s') :
    wpAny (model G.prog G.w) A (collect (.ref a)) Q E s := by
  have hSa : s.heap.objs.size ≠ a := Nat.ne_of_gt (Heap.lt_size ha)
  unfold collect
  refine wpAny_bind (wpAny_runValue (codeAny_builtin F.entry_proto_collect ?_))
  rw [Around.under_plainId F.plain_proto_collect _]
  show wpAny _ A.in1 (newList [] >>= fun l => again (.builtin "list.__iadd__" ⟨[l, .ref a], []⟩)) _ _ s
  refine wpAny_bind (wpAny_newObj_type ?_)
  refine wpAny_pure ⟨plainId_quiet F.plain_list_iadd _, codeAny_builtin F.entry_list_iadd ?_⟩
  rw [Around.under_plainId F.plain_list_iadd _]
  have k1 : ∀ b o, s.heap.get? b = some o → (s.heap.push { cls := .type "list", data := .seq ([] : List Value).toArray }).get? b = some o := fun b o e => Heap.get?_push_of_some _ e
  have gty : ∀ {h : Heap}, (∀ b o, s.heap.get? b = some o → h.get? b = some o) → h.IsGen a g := fun {h} q => hga h (q _ _ ha)
  show wpAny _ A.in1 (Builtin.List.listExtendWith (.ref s.heap.objs.size) (.ref a) (.ref s.heap.objs.size)) _ _ _
  unfold Builtin.List.listExtendWith
  refine wpAny_bind (wpAny_typeOf (Heap.IsGen.typeIs (s := { s with heap := _ }) (gty k1)) ?_)
  have h1 : Builtin.List.listSameRef (.ref s.heap.objs.size) (.ref a) = false := by simp [Builtin.List.listSameRef, hSa]
  have h2 : (Value.type "generator" == Value.type "list") = false := by decide
  have h3 : (Value.type "generator" == Value.type "tuple") = false := by decide
  simp only [h1, h2, h3, Bool.or_false, Bool.false_eq_true, if_false]
  refine wpAny_bind (wpAny_pyIter_gen (s := { s with heap := _ }) (gty k1) ?_)
  refine wpAny_bind (wpAny_holding ?_)
  unfold Builtin.List.listLengthHint
  refine wpAny_bind (wpAny_specialOf (Heap.IsGen.typeIs (s := { s with heap := _ }) (gty k1)) F.gen_no_len ?_)
  show wpAny _ A.in1 (specialOf (Value.ref a) (Str.ofString "__length_hint__") >>= _) _ _ _
  refine wpAny_bind (wpAny_specialOf (Heap.IsGen.typeIs (s := { s with heap := _ }) (gty k1)) F.gen_no_hint ?_)
  refine wpAny_pure ?_
  show wpAny _ A.in1 (rule "list.extend.makes-room" >>= fun _ => Builtin.List.listTouch (.ref s.heap.objs.size) >>= fun _ =>
    again (.builtin "list.extend.loop" ⟨[.ref s.heap.objs.size, .ref a, .ref s.heap.objs.size], []⟩)) _ _ _
  refine wpAny_bind (wpAny_rule ?_)
  have hS₁ : (s.heap.push { cls := .type "list", data := .seq ([] : List Value).toArray }).get? s.heap.objs.size = some { cls := .type "list", data := .seq ([] : List Value).toArray } := Heap.get?_push_size _ rfl
  refine wpAny_bind ?_
  show wpAny _ A.in1 (updateSeq s.heap.objs.size (·.push .none) >>= fun _ => updateSeq s.heap.objs.size (·.pop)) _ _ _
  refine wpAny_bind (wpAny_updateSeq hS₁ rfl ?_)
  have hS₂ := Heap.get?_update_self (Obj.mapSeq (·.push Value.none)) hS₁ rfl
  refine wpAny_updateSeq hS₂ rfl ?_
  have hS₃ := Heap.get?_update_self (Obj.mapSeq (·.pop)) hS₂ rfl
  have up : ∀ (h : Heap) (f : Obj → Obj), (∀ b o, s.heap.get? b = some o → h.get? b = some o) → ∀ b o, s.heap.get? b = some o → (h.update s.heap.objs.size f).get? b = some o := fun h f q b o e =>
    (Heap.get?_update_other _ _ (Ne.symm (Nat.ne_of_lt (Heap.lt_size e)))).trans (q b o e)
  have k3 := up _ (Obj.mapSeq (·.pop)) (up _ (Obj.mapSeq (·.push Value.none)) k1)
  obtain ⟨gs, n, g1, g2⟩ := go _ _ k3 hS₃
  refine wpAny_pure ⟨plainId_quiet F.plain_extend_loop _, tup_loop (G := G) (p0 := p0) (A := A) (Qe := Qe) hh hd hpa hga (fun s1 s' σ2 H I1 hq wk => ?_) n _ (gty k3) (hl.keeps k3) ⟨gs, g1, g2⟩⟩
  obtain ⟨its, nn, hS', q⟩ := hQ s1 s' σ2 H I1 hq wk
  show wpAny _ A (load s.heap.objs.size >>= _) _ _ s'
  refine wpAny_bind (wpAny_load hS' ?_)
  refine wpAny_pure ?_
  have e : its.toArray.toList = its := by simp
  show Q its.toArray.toList s'
  rw [e]
  exact q
theorem code_tuple_newX {prog : Program} {w : World} {A : Around} {E : Value → Shared → Prop} {s : Shared} {a : Addr} {Q₁ : Value → Shared → Prop} (hTI : s.TypeIs (.ref a) "generator")
    (hc : wpAny (model prog w) A.in1 (collect (.ref a)) (fun xs s' => xs.length ≤ sizeLine ∧ Q₁ (.ref s'.heap.objs.size) { s' with heap := s'.heap.push { cls := .type "tuple", data := .seq xs.toArray } }) E s) :
    codeAny (model prog w) A (.call (.builtin "tuple.__new__") ⟨[.type "tuple", .ref a], []⟩) (wants Q₁ E) s := by
  refine codeAny_of_tree ?_
  show wpAny _ A.in1 (do checkBuiltinCall "tuple.__new__" ⟨[.type "tuple", .ref a], []⟩; again (.builtin "tuple.__new__" ⟨[.type "tuple", .ref a], []⟩)) _ _ s
  refine wpAny_bind (wpAny_of_eq (F.newCall_tuple_1 _) (wpAny_pure ⟨plainId_quiet F.plain_tuple_new _, codeAny_builtin F.entry_tuple_new ?_⟩))
  rw [Around.under_plainId F.plain_tuple_new _]
  have hsub := sub_tuple_self
  have hinit := init_tuple_lookup
  have hmh := madeHere_tuple
  wp_walk using wpAny_typeOf hTI, collect_mono hc (fun e s' h => h)
  intro xs s' h
  show wpAny _ _ (Builtin.Tuple.tupleExact xs.toArray >>= fun v => ret v) _ _ _
  unfold Builtin.Tuple.tupleExact
  refine wpAny_bind (wpAny_newObj_type ?_ (by show xs.toArray.size ≤ sizeLine; rw [List.size_toArray]; exact h.1))
  exact wpAny_pure h.2
/-- tuple(e for x in ..): as a list comprehension, the list at D; a new tuple of it -/
def tTupG (P : Addr) (wi : TI) (g : TG) (tt : TT) (te : TE) (vs : List Nat) : TE := fun σ H Q => wi σ H fun J H1 => TabG H1 P ∧ ∀ H2, Tabbed P H1 H2 → ∀ D, H2 D = none →
  ∃ W : Nat → Nat → Hp → Prop, (∃ m, W 0 m (upd H2 D (.lst []))) ∧ TupTurns J g tt te vs (wipe σ vs) D W (fun H => ∃ xs, H D = some (.lst xs) ∧ ∀ p, H p = none → Q (.ref p) (upd H p (.tup xs)))
theorem pe_tupG {c P : Addr} {elt tg iter : Expr} {ifs : List Expr} {scope : Scope} {own : List (Str × Nat)} {p pos gpos : Pos} {wi : TI} {g : TG} {tt : TT} {te : TE} {k : Nat}
    (hr : Room (k + 6) X.A) (hgl : Gl X "tuple") (hm : X.mg "tuple" = none) (TB : TabB X.base X.mg c P) (hcode : X.env.code = .ref c) (hc : X.calm = true) (hN : X.N.Nodup) (hi : PI X tg iter wi) (ok : BlkOk X.N X.env.scope scope own) (S : GScp scope)
    (hg : ∀ (s : Shared) (H : Hp) (C : Addr) (cl : List (Str × Addr)) (code : Value) (fp : List Addr) (A : Around), Room k A → PG (gen X s H (genEnv scope cl C code builtinsNs X.env) fp A) tg g)
    (ht : ∀ (s : Shared) (H : Hp) (C : Addr) (cl : List (Str × Addr)) (code : Value) (fp : List Addr) (A : Around), Room k A → PTs (gen X s H (genEnv scope cl C code builtinsNs X.env) fp A) ifs tt)
    (he : ∀ (s : Shared) (H : Hp) (C : Addr) (cl : List (Str × Addr)) (code : Value) (fp : List Addr) (A : Around), Room k A → PE (gen X s H (genEnv scope cl C code builtinsNs X.env) fp A) elt te)
    (hs : ∀ v, genFold iter X.env v = pure v)
    (hst : starEach [.GeneratorExp elt [⟨tg, iter, ifs, 0⟩] scope gpos] X.env = (false, eval (.GeneratorExp elt [⟨tg, iter, ifs, 0⟩] scope gpos) X.env) :: starEach [] X.env := by rfl) :
    PE X (.Call (.Name "tuple" p) [.GeneratorExp elt [⟨tg, iter, ifs, 0⟩] scope gpos] [] pos) (tTupG P wi g tt te (own.map (·.2))) := by
  refine ⟨fun pins s σ H Q I h => ?_⟩
  have hfree : ∀ y ∈ scope.names, y.2 = .free → ∃ c, X.env.cells.lookup y.1 = some c := fun y hy e => by
    rcases ok.free y hy e with k | k
    · exact I.ok.has _ (.inl k)
    · exact I.ok.has _ (.inr k)
  refine wpAny_Call_Name_kw (ld_blt I hgl hm (by decide +kernel : bootBuiltins "tuple" = some (.type "tuple")) ?_)
  refine PyProof.Rows.callWith_type1 ?_ hst (by rfl)
  rw [hst]
  show wpAny _ _ (spliced ((false, eval (.GeneratorExp elt [⟨tg, iter, ifs, 0⟩] scope gpos) X.env) :: backTo pos (starEach [] X.env))) _ _ s
  refine Calls.spliced_cons ?_
  refine wpAny_GeneratorExp_make S.co (closure_ok hfree) S.nc S.dot ok.kind (by have := hr.dp; omega) ?_ hs
  refine thn (hi.run pins s σ H _ I h) fun xv s1 hx => thn hx fun itv s2 h2 => ?_
  obtain ⟨it, fp, tn, J, H2, e, I2, T, st2, f2, ⟨ps, hP, ht0⟩, q⟩ := h2
  subst e
  refine ⟨I2.nolimit, ?_⟩
  have hPs : s2.heap.get? P = some { cls := .none, data := .fields ps } := I2.hok P _ hP
  have cd : PySem.W.CodeHd s2.heap c P := TB.code.keeps fun b u e => I2.bk b u e
  have fpP : ∀ b ∈ fp, b ≠ P := fun b hb z => by
    have := (f2 b hb).1
    rw [z, hP] at this
    cases this
  have sz : ∀ b ∈ fp, b < s2.heap.objs.size := fun b hb => by
    obtain ⟨o, e, _⟩ := T.obj _ _ st2 b hb
    exact Heap.lt_size e
  have cont : ∀ (code : Value) (h3 : Heap) (tk : Nat) (ps' : Array Value), Heap.ExtBut P s2.heap h3 → s2.heap.objs.size ≤ h3.objs.size → h3.get? P = some { cls := .none, data := .fields ps' } → (∃ more, ps' = ps ++ more) → TriplesOk ps'.toList →
      wpAny (model X.prog X.w) X.A (builtinsFor X.env.globals X.env.builtins) (fun bi s₄ =>
        ∀ h', h'.Ns s₄.heap.objs.size (fun y => if y = ".0" then some (.ref it) else none) → Heap.SameBut s₄.heap.objs.size (s₄.heap.push { cls := .type "frame", data := .dict #[] }) h' →
          wpAny (model X.prog X.w) X.A (spliced (backTo pos (starEach [] X.env))) (fun vs s₁ => wpAny (model X.prog X.w) X.A (call (.type "tuple") (.ref h'.objs.size :: vs)) (EP X pins σ Q) X.xe s₁) X.xe { s₄ with
            gens := s₄.gens.push (.fresh (.compStart (.GeneratorExp elt [⟨tg, iter, ifs, 0⟩] scope gpos) 0 (.ref it) .none (genEnv scope (cloFrom X.env.cells scope.names []) s₄.heap.objs.size code bi X.env))),
            toks := s₄.toks + 1 + 1 + 1,
            heap := h'.push { cls := .type "generator", data := .fields #[.int s₄.gens.size 0, .str "<genexpr>" (s₄.toks + 1), .str (X.env.qual ++ "<genexpr>") (s₄.toks + 1 + 1)] } }) X.xe { s2 with heap := h3, toks := tk } := by
    intro code h3 tk ps' hx hsz hP3 hmore ht3
    obtain ⟨more, rfl⟩ := hmore
    obtain ⟨bm, ob, e1, e2, e3, e4, e5, e6, e7, e8⟩ := TB.bm
    have keep3 : ∀ b u, b ≠ P → s2.heap.get? b = some u → h3.get? b = some u := fun b u hb e => hx b u hb e
    refine wpAny_builtinsFor (m := X.mg) (by rw [I2.ok.glob]; exact (I2.mod.glob.keeps I2.bk).extBut hx TB.gP) e1 e2 (keep3 _ _ e4 (I2.bk _ _ e5)) e6 e7 e8 ?_
    generalize hs4 : ({ s2 with heap := h3, toks := tk } : Shared) = s4
    have h4h : s4.heap = h3 := by rw [← hs4]
    have I4 : Inv X pins σ (upd H2 P (.tbl (ps ++ more))) s4 := by
      rw [← hs4]
      exact inv_tab (more := more) (h' := h3) (g' := s2.gens) (d' := s2.drawn) (t' := tk) I2 hP keep3 hP3 I2.bare
    have hT2 : Tabbed P H2 (upd H2 P (.tbl (ps ++ more))) := ⟨⟨_, upd_same, ht3⟩, fun b hb => upd_ne hb⟩
    have q4 := q _ hT2
    generalize hH4 : upd H2 P (.tbl (ps ++ more)) = H4 at I4 q4
    have f4 : ∀ b ∈ fp, FpOk X pins H4 b ∧ b < s4.heap.objs.size := fun b hb => by
      refine ⟨⟨?_, (f2 b hb).2⟩, by rw [h4h]; exact Nat.lt_of_lt_of_le (sz b hb) hsz⟩
      rw [← hH4, upd_ne (fpP b hb)]
      exact (f2 b hb).1
    have st4 : tn 0 s4.heap := T.keep _ _ _ st2 fun b hb o e => by rw [h4h]; exact keep3 b o (fpP b hb) e
    intro h' hn' hs'
    have hsz' : h'.objs.size = s4.heap.objs.size + 1 := by rw [hs'.1, Heap.size_push]
    have keep' : ∀ b o, s4.heap.get? b = some o → h'.get? b = some o := fun b o e => hs'.extBut b o (Nat.ne_of_lt (Heap.lt_size e)) (Heap.get?_push_of_some _ e)
    generalize hoa : ({ cls := .type "generator", data := .fields #[.int s4.gens.size 0, .str "<genexpr>" (s4.toks + 1), .str (X.env.qual ++ "<genexpr>") (s4.toks + 1 + 1)] } : Obj) = oa
    generalize hcenv : genEnv scope (cloFrom X.env.cells scope.names []) s4.heap.objs.size code builtinsNs X.env = cenv
    generalize hs5 : ({ s4 with gens := s4.gens.push (.fresh (.compStart (.GeneratorExp elt [⟨tg, iter, ifs, 0⟩] scope gpos) 0 (.ref it) .none cenv)), toks := s4.toks + 1 + 1 + 1, heap := h'.push oa } : Shared) = s5
    have h5h : s5.heap = h'.push oa := by rw [← hs5]
    have kp5 : ∀ b o, s4.heap.get? b = some o → s5.heap.get? b = some o := fun b o e => by rw [h5h]; exact Heap.get?_push_of_some _ (keep' b o e)
    have ha5 : s5.heap.get? h'.objs.size = some oa := by rw [h5h]; exact Heap.get?_push_size _ (by rw [← hoa]; rfl)
    have g5 : s5.gens[s4.gens.size]? = some (.fresh (.compStart (.GeneratorExp elt [⟨tg, iter, ifs, 0⟩] scope gpos) 0 (.ref it) .none cenv)) := by rw [← hs5]; exact Array.getElem?_push_size ..
    have b5 : AllBare s5.gens := by rw [← hs5]; exact I4.bare.push rfl
    have isg : ∀ h : Heap, h.get? h'.objs.size = some oa → h.IsGen h'.objs.size s4.gens.size := fun h e => by
      rw [← hoa] at e
      exact ⟨_, _, _, e, rfl, rfl, rfl⟩
    refine Calls.spliced_nil ?_
    have back : ∀ s1 s' σ2 H', Inv (gen X s4 H4 cenv fp (X.A.in1.in1.in1.in1.deeper cenv)) [(h'.objs.size, oa)] σ2 H' s1 → Woken s1 s' → Inv X pins σ H' s' := fun s1 s' σ2 H' I1 wk =>
      inv_woken (I4.call' (ch := fp) I1.os I1.base I1.hok I1.bare fun b hb => ⟨(f4 b hb).1.2.2.2.1, (f4 b hb).1.2.1, (f4 b hb).1.2.2.2.2.1, (f4 b hb).1.2.2.2.2.2⟩) wk
    have frm : (X.A.in1.in1.in1.in1.deeper cenv).frames = some (cenv :: X.stack) := Around.frames_deeper I4.ok.frames
    have hrA : Room k (X.A.in1.in1.in1.in1.deeper cenv) := ((((((hr.mono (by omega : k + 5 ≤ k + 6)).in1).in1).in1).in1).deeper cenv)
    have I5 : Inv (gen X s4 H4 cenv fp (X.A.in1.in1.in1.in1.deeper cenv)) [] (wipe σ (own.map (·.2))) H4 (s5.setGen s4.gens.size .running) :=
      gen_start (s5 := s5.setGen s4.gens.size .running) I4 ok hN S.nc f4 hcenv.symm frm hrA.hd (by rw [← hs5]; rfl) (allBare_setGen b5 rfl) kp5 (show Heap.Ns s5.heap s4.heap.objs.size _ by rw [h5h]; exact hn'.push _)
    have I6 : Inv (gen X s4 H4 cenv fp (X.A.in1.in1.in1.in1.deeper cenv)) [(h'.objs.size, oa)] (wipe σ (own.map (·.2))) H4 (s5.setGen s4.gens.size .running) := I5.pins_of fun p hp => by
      have ep : p = (h'.objs.size, oa) := List.mem_singleton.mp hp
      subst ep
      have hge : s4.heap.objs.size ≤ h'.objs.size := by omega
      refine ⟨ha5, I4.hok.fresh hge, ?_, fun z => ?_, fun v z => ?_⟩
      · show h'.objs.size ≠ cenv.locals
        rw [← hcenv]
        show h'.objs.size ≠ s4.heap.objs.size
        omega
      · rcases List.mem_cons.mp (I4.stkSub _ z) with z | z
        · have hlt : h'.objs.size < s4.heap.objs.size := by
            rw [show h'.objs.size = X.env.locals from z]
            exact I4.lt
          exact absurd (Nat.lt_of_lt_of_le hlt hge) (Nat.lt_irrefl _)
        · exact I4.nofs hge z
      · rw [← hoa] at z
        cases z
    have hDn : H4 s5.heap.objs.size = none := I4.hok.fresh (by rw [h5h, Heap.size_push]; omega)
    obtain ⟨W, ⟨m0, w0⟩, turn⟩ := q4 s5.heap.objs.size hDn
    have hnf : ∀ b ∈ fp, upd H4 s5.heap.objs.size (.lst []) b = none := fun b hb => by
      have h2 : s4.heap.objs.size ≤ s5.heap.objs.size := by rw [h5h, Heap.size_push]; omega
      rw [upd_ne (Nat.ne_of_lt (Nat.lt_of_lt_of_le (f4 b hb).2 h2))]
      exact (f4 b hb).1.1
    refine callType_codes (Q₁ := fun obj s₁ => s₁.TypeIs obj "tuple" ∧ EP X pins σ Q obj s₁) F.called_tuple (F.typeCall_tuple_1 _) F.entry_object_init (code_tuple_newX (isg _ ha5).typeIs
      (collect_genX (G := gen X s4 H4 cenv fp (X.A.in1.in1.in1.in1.deeper cenv)) (p0 := [(h'.objs.size, oa)]) (A := X.A.in1.in1) (Qe := fun H => ∃ xs, H s5.heap.objs.size = some (.lst xs) ∧ ∀ p, H p = none → Q (.ref p) (upd H p (.tup xs))) hr.hd (by have := hr.dp; show X.A.depth < _; omega) (List.mem_singleton.mpr rfl) isg ha5 (I4.nolimit.keeps kp5) (fun h7 c7 kp7 hS7 => ?_) (fun s1 s' σ2 H' I1 hq wk => ?_))) fun obj s₁ h₁ => ?_
    · have I7 : Inv (gen X s4 H4 cenv fp (X.A.in1.in1.in1.in1.deeper cenv)) [(h'.objs.size, oa)] (wipe σ (own.map (·.2))) (upd H4 s5.heap.objs.size (.lst [])) (({ s5 with heap := h7 } : Shared).setGen s4.gens.size .running) :=
        I6.laid (h' := h7) (t' := s5.toks) (a := s5.heap.objs.size) (o := .lst []) (fun b u e => kp7 b u e) (Nat.le_refl _) ⟨Nat.zero_le _, [], c7, .nil, hS7⟩
      refine ⟨_, m0 + 1, g5, rfl, ?_⟩
      exact seg_tupStart (iter := iter) (scope := scope) (pos := gpos) (A := X.A.in1.in1.in1.in1) (p0 := [(h'.objs.size, oa)]) hc (by rw [← hcenv]; exact S.co) T (fun p hp z => by
          rw [List.mem_singleton.mp hp] at z
          have := (f4 _ z).2
          have hge : s4.heap.objs.size ≤ h'.objs.size := by omega
          exact absurd (Nat.lt_of_lt_of_le this hge) (Nat.lt_irrefl _))
        (by rw [← hcenv]; exact hg s4 H4 _ _ code fp _ (by rw [hcenv]; exact hrA)) (by rw [← hcenv]; exact ht s4 H4 _ _ code fp _ (by rw [hcenv]; exact hrA)) (by rw [← hcenv]; exact he s4 H4 _ _ code fp _ (by rw [hcenv]; exact hrA))
        turn m0 (m0 + 1) _ _ _ (by omega) I7 (T.keep _ _ _ st4 fun b _ o e => kp7 b o (kp5 b o e)) hnf w0
    · obtain ⟨xs, hx, hq⟩ := hq
      obtain ⟨its, nn, r, ho, hz⟩ := I1.lst hx
      have hlen := r.length
      refine ⟨its, nn, wk.2.2 _ _ ho, by omega, ⟨_, Heap.get?_push_size _ rfl, rfl⟩, ?_⟩
      have Ib := back s1 s' σ2 H' I1 wk
      exact ⟨.ref s'.heap.objs.size, upd H' s'.heap.objs.size (.tup xs), Ib.laid (h' := s'.heap.push { cls := .type "tuple", data := .seq its.toArray }) (t' := s'.toks) (fun b o e => Heap.get?_push_of_some _ e) (Nat.le_refl _) (show ObjOk X.prog X.w _ _ _ (.tup xs) from ⟨hz, its, r, IsTup.new _ _⟩), rfl, hq _ (Ib.hok.fresh (Nat.le_refl _))⟩
    · exact ⟨h₁.1, F.args_object_init_2 obj _, object_init_meets F.called_tuple.init.lookup F.called_tuple.made (by decide) X.prog X.w X.A.in1 _ s₁ ⟨h₁.1, rfl, h₁.2⟩⟩
  cases hf : codeAmong gpos ps.toList with
  | none =>
    refine wpAny_genexprCodeX hcode (cd.code hPs ht0) (cd.tab hPs) hf fun c' h' tk hx hge hlt hco' _ htab' _ => ?_
    obtain ⟨o1, vs, f1, tf, fl, tg', inF, tx, tt', op, _, _, _, _, _, _, _, _, _, htr, _⟩ := hco'
    exact cont _ h' tk _ hx (Nat.le_trans hge (Nat.le_of_lt hlt)) htab'.2 ⟨_, rfl⟩ htr
  | some cv =>
    refine wpAny_genexprCode_hit hcode (cd.code hPs ht0) hf ?_
    exact cont cv s2.heap s2.toks ps (Heap.ExtBut.refl _ _) (Nat.le_refl _) hPs ⟨#[], by simp⟩ ht0
end
end Zk
set_option Elab.async false
set_option linter.all false
set_option maxRecDepth 100000
set_option maxHeartbeats 2000000
/-! Rows of parts; what a def with a table keeps. -/
namespace Zk
open PySem PySem.Spec PyProof.Rows L2 GxR RZ
/-! ### all kept, but the table at Pt has grown -/
structure Kt (Pt : Addr) (H H' : Hp) : Prop where
  keep : ∀ b o, b ≠ Pt → H b = some o → H' b = some o
  tab : TabG H' Pt
theorem Kt.kp {Pt : Addr} {H H' : Hp} (k : Kt Pt H H') (h : TabG H Pt) : Kp H H' := fun b o n e => by
  obtain ⟨ps, hp, _⟩ := h
  exact k.keep b o (ne_of e hp (n ps)) e
theorem Kt.tg {Pt P' : Addr} {H H' : Hp} (k : Kt Pt H H') (h : TabG H P') : TabG H' P' := by
  by_cases z : P' = Pt
  · rw [z]; exact k.tab
  · obtain ⟨ps, hp, t⟩ := h
    exact ⟨ps, k.keep _ _ z hp, t⟩
theorem Kt.of_same {Pt : Addr} {H H' : Hp} (e : Same H H') (h : TabG H Pt) : Kt Pt H H' := ⟨fun b o _ q => e b o q, tg_same h e⟩
theorem Kt.of_tab {Pt : Addr} {H H' : Hp} (e : Tabbed Pt H H') : Kt Pt H H' := ⟨fun b o n q => by rw [e.2 b n]; exact q, e.1⟩
theorem Kt.trans {Pt : Addr} {H H1 H2 : Hp} (a : Kt Pt H H1) (b : Kt Pt H1 H2) : Kt Pt H H2 := ⟨fun c o n q => b.keep c o n (a.keep c o n q), b.tab⟩
/-- all kept, but the table at Pt and the list at D -/
structure Kd (Pt D : Addr) (H H' : Hp) : Prop where
  keep : ∀ b o, b ≠ Pt → b ≠ D → H b = some o → H' b = some o
  tab : TabG H' Pt
theorem Kd.start {Pt D : Addr} {H H2 : Hp} {o : HO} (T : Tabbed Pt H H2) (n : H2 D = none) : Kd Pt D H (upd H2 D o) := by
  have nD : Pt ≠ D := fun z => by
    obtain ⟨ps, hp, _⟩ := T.1
    rw [z, n] at hp
    cases hp
  refine ⟨fun b u h1 h2 e => ?_, ?_⟩
  · rw [upd_ne h2, T.2 b h1]; exact e
  · obtain ⟨ps, hp, t⟩ := T.1
    exact ⟨ps, by rw [upd_ne nD]; exact hp, t⟩
theorem Kd.same {Pt D : Addr} {H H1 H2 : Hp} (k : Kd Pt D H H1) (e : Same H1 H2) : Kd Pt D H H2 := ⟨fun b o h1 h2 q => e _ _ (k.keep b o h1 h2 q), tg_same k.tab e⟩
theorem Kd.upd {Pt D : Addr} {H H1 : Hp} {xs : List V} {o : HO} (k : Kd Pt D H H1) (hD : H1 D = some (.lst xs)) : Kd Pt D H (upd H1 D o) := by
  obtain ⟨ps, hp, t⟩ := k.tab
  have n : Pt ≠ D := ne_of hp hD (fun z => by cases z)
  exact ⟨fun b u h1 h2 q => by rw [upd_ne h2]; exact k.keep b u h1 h2 q, ps, by rw [upd_ne n]; exact hp, t⟩
theorem Kd.kt {Pt D : Addr} {H H1 : Hp} (k : Kd Pt D H H1) (n : H D = none) : Kt Pt H H1 := ⟨fun b o h1 q => k.keep b o h1 (ne_of_none q n) q, k.tab⟩
theorem Kd.get {Pt D : Addr} {H H1 : Hp} {b : Addr} {o : HO} (k : Kd Pt D H H1) (n : H D = none) (h : TabG H Pt) (e : H b = some o) (no : ∀ ps, o ≠ .tbl ps) : H1 b = some o := by
  obtain ⟨ps, hp, _⟩ := h
  exact k.keep b o (ne_of e hp (no ps)) (ne_of_none e n) e
theorem same_upd {H : Hp} {p : Addr} {o : HO} (n : H p = none) : Same H (upd H p o) := fun b u e => by rw [upd_ne (ne_of_none e n)]; exact e
/-! ### the loop of tuple(..) -/
theorem tup_steps {J : It} {g : TG} {tt : TT} {te : TE} {vs : List Nat} {σw : L2.St} {D : Addr} {H0 : Hp} {Qe : Hp → Prop} (n : Nat) (Pv : Nat → Hp → Prop) (h0 : Pv 0 H0) (hgo : ∀ i H, i < n → Pv i H → J.go i H) (hstop : ∀ H, Pv n H → J.stop n H)
    (hs : ∀ i H x H', i < n → Pv i H → J.yld i H x H' → g x σw H' fun σ2 H2 => wipe σ2 vs = σw ∧ tt σ2 H2 fun b H3 => if b = true then te σ2 H3 fun y H4 => ∃ xs, H4 D = some (.lst xs) ∧ xs.length < sizeLine ∧ Pv (i + 1) (upd H4 D (.lst (xs ++ [y]))) else Pv (i + 1) H3)
    (hd : ∀ H, Pv n H → Qe H) : ∃ W : Nat → Nat → Hp → Prop, (∃ m, W 0 m H0) ∧ TupTurns J g tt te vs σw D W Qe := by
  refine ⟨fun i m H => m = n - i ∧ i ≤ n ∧ Pv i H, ⟨n, rfl, Nat.zero_le _, h0⟩, ?_⟩
  rintro i m H ⟨rfl, hi, p⟩
  by_cases h : i < n
  · exact .inr ⟨hgo i H h p, Pv (i + 1), fun H' p' => ⟨n - (i + 1), by omega, rfl, h, p'⟩, fun x H' hy => hs i H x H' h p hy⟩
  · have e : i = n := by omega
    subst e
    exact .inl ⟨hstop H p, hd H p⟩
theorem tup_zip {K : PySem.W.Frag} {a b : Addr} {xs ys : List V} {g : TG} {tt : TT} {te : TE} {vs : List Nat} {σw : L2.St} {D : Addr} {H0 : Hp} {Qe : Hp → Prop} (hl : xs.length = ys.length) (Pv : Nat → Hp → Prop) (h0 : Pv 0 H0) (hq : ∀ i H, Pv i H → SqT K H a xs ∧ SqT K H b ys)
    (hs : ∀ (i : Nat) (x y : V) (T : Addr) (H : Hp), xs[i]? = some x → ys[i]? = some y → Pv i H → H T = none → g (.ref T) σw (upd H T (.tup [x, y])) fun σ2 H2 => wipe σ2 vs = σw ∧ tt σ2 H2 fun b H3 => if b = true then te σ2 H3 fun y H4 => ∃ xs, H4 D = some (.lst xs) ∧ xs.length < sizeLine ∧ Pv (i + 1) (upd H4 D (.lst (xs ++ [y]))) else Pv (i + 1) H3)
    (hd : ∀ H, Pv xs.length H → Qe H) : ∃ W : Nat → Nat → Hp → Prop, (∃ m, W 0 m H0) ∧ TupTurns (ItzT K a b) g tt te vs σw D W Qe := by
  refine tup_steps xs.length Pv h0 (fun i H hi p => ?_) (fun H p => ?_) (fun i H v H' hi p hy => ?_) hd
  · obtain ⟨qx, qy⟩ := hq i H p
    exact ⟨xs, ys, xs[i], ys[i], qx, qy, List.getElem?_eq_getElem hi, List.getElem?_eq_getElem (by omega)⟩
  · obtain ⟨qx, qy⟩ := hq _ H p
    exact ⟨xs, ys, qx, qy, .inl (Nat.le_refl _)⟩
  · obtain ⟨qx, qy⟩ := hq i H p
    obtain ⟨T, x', y', rfl, hT, rfl, f1, f2⟩ := hy
    exact hs i x' y' T H (f1 xs qx) (f2 ys qy) p hT
theorem tup_tup {K : PySem.W.Frag} {a : Addr} {xs : List V} {g : TG} {tt : TT} {te : TE} {vs : List Nat} {σw : L2.St} {D : Addr} {H0 : Hp} {Qe : Hp → Prop} (Pv : Nat → Hp → Prop) (h0 : Pv 0 H0) (hq : ∀ i H, Pv i H → SqT K H a xs)
    (hs : ∀ (i : Nat) (x : V) (H : Hp), xs[i]? = some x → Pv i H → g x σw H fun σ2 H2 => wipe σ2 vs = σw ∧ tt σ2 H2 fun b H3 => if b = true then te σ2 H3 fun y H4 => ∃ xs, H4 D = some (.lst xs) ∧ xs.length < sizeLine ∧ Pv (i + 1) (upd H4 D (.lst (xs ++ [y]))) else Pv (i + 1) H3)
    (hd : ∀ H, Pv xs.length H → Qe H) : ∃ W : Nat → Nat → Hp → Prop, (∃ m, W 0 m H0) ∧ TupTurns (Itt K a) g tt te vs σw D W Qe := by
  refine tup_steps xs.length Pv h0 (fun i H hi p => ⟨xs, xs[i], hq i H p, List.getElem?_eq_getElem hi⟩) (fun H p => ⟨xs, hq _ H p, Nat.le_refl _⟩) (fun i H v H' hi p hy => ?_) hd
  obtain ⟨rfl, f1⟩ := hy
  exact hs i v _ (f1 xs (hq i _ p)) p
theorem z_tupG {P : Addr} {wi : TI} {g : TG} {tt : TT} {te : TE} {vs : List Nat} {σ : L2.St} {H : Hp} {Q : VK} (q : wi σ H fun J H1 => TabG H1 P ∧ ∀ H2, Tabbed P H1 H2 → ∀ D, H2 D = none →
  ∃ W : Nat → Nat → Hp → Prop, (∃ m, W 0 m (upd H2 D (.lst []))) ∧ TupTurns J g tt te vs (wipe σ vs) D W (fun H => ∃ xs, H D = some (.lst xs) ∧ ∀ p, H p = none → Q (.ref p) (upd H p (.tup xs)))) : tTupG P wi g tt te vs σ H Q := q
theorem z_zipA {K : PySem.W.Frag} {ta : TA} {σ : L2.St} {H : Hp} {R : It → Hp → Prop} (q : ta σ H fun vs H1 => ∃ a b xs ys, vs = [.ref a, .ref b] ∧ ((SqL K H1 a xs ∧ SqL K H1 b ys ∧ R (Itz K a b) H1) ∨ (SqT K H1 a xs ∧ SqT K H1 b ys ∧ R (ItzT K a b) H1))) : iZipA K ta σ H R := q
theorem op_repTE {X : Cx} (K : PySem.W.Frag) (e : X.K = K := by rfl) : OpR X (binaryOp .Mult) (rRepT K) := by rw [← e]; exact op_repT
theorem pi_zipE {X : Cx} (K : PySem.W.Frag) {e e2 : Expr} {ta : TA} {p pos tpos : Pos} {elts : List Expr} {kk : Nat} (hg : Gl X "zip") (hm : X.mg "zip" = none) (ha : PA X [e, e2] ta) (ek : X.K = K := by rfl)
    (hs : starEach [e, e2] X.env = (false, eval e X.env) :: starEach [e2] X.env := by rfl) (hpl : (backTo pos (starEach [e2] X.env)).any (·.1) = false := by rfl) :
    PI X (.Tuple elts kk tpos) (.Call (.Name "zip" p) [e, e2] [] pos) (iZipA K ta) := by rw [← ek]; exact pi_zipA hg hm ha hs hpl
theorem z_repT1 {K : PySem.W.Frag} {H : Hp} {Q : VK} {l : Addr} {v : V} {k : Int} (h : H l = some (.tup [v])) (h2 : 2 ≤ k) (h3 : k ≤ 1000) (q : ∀ p H', H p = none → Same H H' → H' p = some (.tup (List.replicate k.toNat v)) → Q (.ref p) H') : rRepT K (.ref l) (.int k) H Q :=
  ⟨l, k, [v], rfl, rfl, SqT.of h, by simp, h2, h3, by simp, fun p hp => q p _ hp (same_upd hp) (by rw [upd_same, List.flatten_replicate_singleton])⟩
/-! ### rows -/
abbrev Pt : Type := Int × Nat
def PtV (H : Hp) (v : V) (d : Pt) : Prop := ∃ q, v = .ref q ∧ H q = some (.tup [.int d.1, .int (d.2 : Int)])
theorem PtV.kp {H H' : Hp} {v : V} {d : Pt} (h : PtV H v d) (k : Kp H H') : PtV H' v d := by
  obtain ⟨q, rfl, h⟩ := h
  exact ⟨q, rfl, k.tup h⟩
def PtsAll (H : Hp) : List V → List Pt → Prop
  | [], [] => True
  | v :: vs, d :: ds => PtV H v d ∧ PtsAll H vs ds
  | _, _ => False
theorem PtsAll.len {H : Hp} : ∀ {vs : List V} {ds : List Pt}, PtsAll H vs ds → vs.length = ds.length
  | [], [], _ => rfl
  | _ :: _, _ :: _, h => by simp only [List.length_cons]; rw [PtsAll.len h.2]
  | [], _ :: _, h => h.elim
  | _ :: _, [], h => h.elim
theorem PtsAll.get {H : Hp} : ∀ {vs : List V} {ds : List Pt} {i : Nat} {v : V}, PtsAll H vs ds → vs[i]? = some v → ∃ d, ds[i]? = some d ∧ PtV H v d
  | [], [], _, _, _, e => by simp at e
  | w :: vs, d :: ds, 0, v, h, e => by
    have e2 : w = v := by simpa using e
    exact ⟨d, rfl, e2 ▸ h.1⟩
  | _ :: vs, _ :: ds, i + 1, v, h, e => PtsAll.get (i := i) h.2 (by simpa using e)
  | [], _ :: _, _, _, h, _ => h.elim
  | _ :: _, [], _, _, h, _ => h.elim
theorem PtsAll.kp {H H' : Hp} (k : Kp H H') : ∀ {vs : List V} {ds : List Pt}, PtsAll H vs ds → PtsAll H' vs ds
  | [], [], _ => trivial
  | _ :: _, _ :: _, h => ⟨h.1.kp k, PtsAll.kp k h.2⟩
  | [], _ :: _, h => h.elim
  | _ :: _, [], h => h.elim
theorem PtsAll.snoc {H : Hp} {v : V} {d : Pt} (hv : PtV H v d) : ∀ {vs : List V} {ds : List Pt}, PtsAll H vs ds → PtsAll H (vs ++ [v]) (ds ++ [d])
  | [], [], _ => ⟨hv, trivial⟩
  | _ :: _, _ :: _, h => ⟨h.1, PtsAll.snoc hv h.2⟩
  | [], _ :: _, h => h.elim
  | _ :: _, [], h => h.elim
theorem PtsAll.rep {H : Hp} {v : V} {d : Pt} (hv : PtV H v d) : ∀ n, PtsAll H (List.replicate n v) (List.replicate n d)
  | 0 => trivial
  | n + 1 => ⟨hv, PtsAll.rep hv n⟩
/-- a list written: what are tuples stays -/
theorem PtsAll.updL {H : Hp} {D : Addr} {xs : List V} {o : HO} (hD : H D = some (.lst xs)) : ∀ {vs : List V} {ds : List Pt}, PtsAll H vs ds → PtsAll (upd H D o) vs ds
  | [], [], _ => trivial
  | _ :: _, _ :: _, h => by
    obtain ⟨⟨q, rfl, hq⟩, h2⟩ := h
    exact ⟨⟨q, rfl, by rw [upd_ne (ne_of hq hD (fun z => by cases z))]; exact hq⟩, PtsAll.updL hD h2⟩
  | [], _ :: _, h => h.elim
  | _ :: _, [], h => h.elim
theorem PtsAll.app {H : Hp} : ∀ {vs ws : List V} {ds es : List Pt}, PtsAll H vs ds → PtsAll H ws es → PtsAll H (vs ++ ws) (ds ++ es)
  | [], _, [], _, _, h => h
  | _ :: _, _, _ :: _, _, h, h2 => ⟨h.1, PtsAll.app h.2 h2⟩
  | [], _, _ :: _, _, h, _ => h.elim
  | _ :: _, _, [], _, h, _ => h.elim
def RowA (H : Hp) (p : Addr) (ds : List Pt) : Prop := ∃ vs, H p = some (.tup vs) ∧ PtsAll H vs ds
theorem RowA.kp {H H' : Hp} {p : Addr} {ds : List Pt} (h : RowA H p ds) (k : Kp H H') : RowA H' p ds := by
  obtain ⟨vs, h1, h2⟩ := h
  exact ⟨vs, k.tup h1, h2.kp k⟩
def Bd (m : Nat) (ds : List Pt) : Prop := ∀ d ∈ ds, d.1.natAbs < 2 ^ m ∧ d.2 ≤ m
def plusF (x y : Pt) : Pt := partF (x.2 + y.2) (x.1 * 2 ^ y.2 + y.1 * 2 ^ x.2)
def lessF (x y : Pt) : Pt := partF (x.2 + y.2) (x.1 * 2 ^ y.2 - y.1 * 2 ^ x.2)
theorem PtsAll.mono {H H' : Hp} (k : ∀ q xs, H q = some (.tup xs) → H' q = some (.tup xs)) : ∀ {vs : List V} {ds : List Pt}, PtsAll H vs ds → PtsAll H' vs ds
  | [], [], _ => trivial
  | _ :: _, _ :: _, h => by
    obtain ⟨⟨q, rfl, hq⟩, h2⟩ := h
    exact ⟨⟨q, rfl, k _ _ hq⟩, PtsAll.mono k h2⟩
  | [], _ :: _, h => h.elim
  | _ :: _, [], h => h.elim
theorem RowA.mono {H H' : Hp} {p : Addr} {ds : List Pt} (k : ∀ q xs, H q = some (.tup xs) → H' q = some (.tup xs)) (h : RowA H p ds) : RowA H' p ds := by
  obtain ⟨vs, h1, h2⟩ := h
  exact ⟨vs, k _ _ h1, h2.mono k⟩
/-- a law's way: all kept but the source at s and the tables of Ps -/
structure Ls (s : Addr) (Ps : List Addr) (H H' : Hp) : Prop where
  keep : ∀ b o, b ≠ s → (∀ ps, o ≠ .tbl ps) → H b = some o → H' b = some o
  src0 : Src H s
  src : Src H' s
  tt : ∀ p ∈ Ps, TabG H' p
theorem Ls.refl {s : Addr} {Ps : List Addr} {H : Hp} (h : Src H s) (t : ∀ p ∈ Ps, TabG H p) : Ls s Ps H H := ⟨fun _ _ _ _ e => e, h, h, t⟩
theorem Ls.trans {s : Addr} {Ps : List Addr} {H H1 H2 : Hp} (a : Ls s Ps H H1) (b : Ls s Ps H1 H2) : Ls s Ps H H2 := ⟨fun c o n1 n2 e => b.keep c o n1 n2 (a.keep c o n1 n2 e), a.src0, b.src, b.tt⟩
theorem Ls.same {s : Addr} {Ps : List Addr} {H H1 H2 : Hp} (l : Ls s Ps H H1) (e : Same H1 H2) : Ls s Ps H H2 := ⟨fun b o n1 n2 q => e _ _ (l.keep b o n1 n2 q), l.src0, l.src.same e, fun p hp => tg_same (l.tt p hp) e⟩
theorem Ls.dr {s : Addr} {Ps : List Addr} {H H1 H2 : Hp} (l : Ls s Ps H H1) (d : Dr s H1 H2) : Ls s Ps H H2 := ⟨fun b o n1 n2 q => d.keep _ _ n1 (l.keep b o n1 n2 q), l.src0, d.src, fun p hp => tg_dr (l.tt p hp) d⟩
theorem Ls.kt {s P : Addr} {Ps : List Addr} {H H1 H2 : Hp} (l : Ls s Ps H H1) (k : Kt P H1 H2) (hP : P ∈ Ps) : Ls s Ps H H2 :=
  ⟨fun b o n1 n2 q => k.kp (l.tt P hP) b o n2 (l.keep b o n1 n2 q), l.src0, l.src.kp (k.kp (l.tt P hP)), fun p hp => k.tg (l.tt p hp)⟩
theorem Ls.tup {s q : Addr} {Ps : List Addr} {H H1 : Hp} {xs : List V} (l : Ls s Ps H H1) (h : H q = some (.tup xs)) : H1 q = some (.tup xs) := by
  obtain ⟨a, b, c, hs⟩ := l.src0
  exact l.keep _ _ (ne_of h hs (fun z => by cases z)) (fun _ z => by cases z) h
theorem Ls.row {s q : Addr} {Ps : List Addr} {H H1 : Hp} {ds : List Pt} (l : Ls s Ps H H1) (h : RowA H q ds) : RowA H1 q ds := h.mono fun _ _ e => l.tup e
theorem Ls.lst {s q : Addr} {Ps : List Addr} {H H1 : Hp} {xs : List V} (l : Ls s Ps H H1) (n : q ≠ s) (h : H q = some (.lst xs)) : H1 q = some (.lst xs) := l.keep _ _ n (fun _ z => by cases z) h
theorem plus_zero : ∀ (ds : List Pt) (n : Nat), ds.length = n → (∀ d ∈ ds, d.2 = 0) → List.zipWith plusF ds (List.replicate n ((0, 0) : Pt)) = ds
  | [], n, h, _ => by simp
  | (x, e) :: ds, n, h, h0 => by
    obtain ⟨n, rfl⟩ : ∃ k, n = k + 1 := ⟨n - 1, by simp at h; omega⟩
    have e0 : e = 0 := h0 (x, e) (by simp)
    subst e0
    rw [List.replicate_succ, List.zipWith_cons_cons, plus_zero ds n (by simpa using h) fun d hd => h0 d (by simp [hd])]
    have : plusF (x, 0) (0, 0) = (x, 0) := by
      show partF (0 + 0) (x * 2 ^ 0 + 0 * 2 ^ 0) = (x, 0)
      rw [Int.pow_zero, Int.mul_one, Int.zero_mul, Int.add_zero]
      rfl
    rw [this]
theorem less_self : ∀ ds : List Pt, List.zipWith lessF ds ds = List.replicate ds.length ((0, 0) : Pt)
  | [] => rfl
  | (x, e) :: ds => by
    rw [List.zipWith_cons_cons, less_self ds, List.length_cons, List.replicate_succ]
    have : lessF (x, e) (x, e) = (0, 0) := by
      show partF (e + e) (x * 2 ^ e - x * 2 ^ e) = (0, 0)
      rw [Int.sub_self]
      exact partF_zero _
    rw [this]
def ptD (d : Pt) : PyData := .tuple [.int d.1, .int (d.2 : Int)]
def rowD (ds : List Pt) : PyData := .tuple (ds.map ptD)
theorem dp_pts {K : PySem.W.Frag} {H : Hp} : ∀ {vs : List V} {ds : List Pt}, PtsAll H vs ds → DpAll K H vs (ds.map ptD)
  | [], [], _ => .nil
  | _ :: _, _ :: _, h => by
    obtain ⟨⟨q, rfl, hq⟩, h2⟩ := h
    exact .cons (.tup (SqT.of hq) (.cons (.int _) (.cons (.int _) .nil))) (dp_pts h2)
  | [], _ :: _, h => h.elim
  | _ :: _, [], h => h.elim
theorem dp_row {K : PySem.W.Frag} {H : Hp} {p : Addr} {ds : List Pt} (h : RowA H p ds) : Dp K H (.ref p) (rowD ds) := by
  obtain ⟨vs, h1, h2⟩ := h
  exact .tup (SqT.of h1) (dp_pts h2)
theorem lay_pts : ∀ ds : List Pt, PyData.canLayAll0 (ds.map ptD) = true ∧ PyData.depthAll (ds.map ptD) ≤ 1
  | [] => ⟨rfl, Nat.zero_le _⟩
  | d :: ds => by
    obtain ⟨h1, h2⟩ := lay_pts ds
    refine ⟨?_, ?_⟩
    · show (PyData.canLay0 (ptD d) && PyData.canLayAll0 (ds.map ptD)) = true
      rw [h1]
      rfl
    · show max (PyData.depth (ptD d)) (PyData.depthAll (ds.map ptD)) ≤ 1
      have : PyData.depth (ptD d) = 1 := rfl
      omega
theorem sh_row (ds : List Pt) : SeqAt.shaped (rowD ds) = true := by
  obtain ⟨h1, h2⟩ := lay_pts ds
  unfold SeqAt.shaped
  have e1 : PyData.canLay0 (rowD ds) = true := h1
  have e2 : PyData.depth (rowD ds) = PyData.depthAll (ds.map ptD) + 1 := rfl
  rw [e1, e2, decide_eq_true (by omega)]
  rfl
theorem eqv_row (ds : List Pt) : PyData.eqv (rowD ds) (rowD ds) = true := SeqAt.eqv_refl _ (lay_pts ds).1
theorem z_neRow {K : PySem.W.Frag} {H : Hp} {Q : VK} {p q : Addr} {ds es : List Pt} (h1 : RowA H p ds) (h2 : RowA H q es) (e : ds = es) (k : Q (.bl false) H) : rNeD K (.ref p) (.ref q) H Q := by
  subst e
  exact z_neD (dp_row h1) (dp_row h2) (sh_row _) (sh_row _) (eqv_row _) k
theorem z_eqRow {K : PySem.W.Frag} {H : Hp} {Q : VK} {p q : Addr} {ds es : List Pt} (h1 : RowA H p ds) (h2 : RowA H q es) (e : ds = es) (k : Q (.bl true) H) : rEqD K (.ref p) (.ref q) H Q := by
  subst e
  exact z_eqD (dp_row h1) (dp_row h2) (sh_row _) (sh_row _) (eqv_row _) k
end Zk
set_option Elab.async false
set_option linter.all false
set_option maxRecDepth 100000
set_option maxHeartbeats 2000000
/-! Names, what is told of a thing by its kind, texts of one letter repeated, tuples of texts of the module. -/
namespace Zk
open PySem PySem.Spec PyProof.Rows L2 GxR
/-! ### a letter so many times -/
theorem rep_arr (c : Nat) : ∀ (m : Nat) (acc : Array Nat), (List.replicate m #[c]).foldl (· ++ ·) acc = acc ++ Array.replicate m c
  | 0, acc => by simp
  | m + 1, acc => by
    rw [List.replicate_succ, List.foldl_cons, rep_arr c m, Array.append_assoc]
    congr 1
    apply Array.ext'
    simp [List.replicate_succ]
def rRepS : R2 := fun x y H Q => ∃ (c : Nat) (k : Int), x = .str ⟨#[c]⟩ ∧ y = .int k ∧ 1 ≤ k ∧ k ≤ 1000 ∧ Q (.str ⟨Array.replicate k.toNat c⟩) H
theorem op_repS {X : Cx} : OpR X (binaryOp .Mult) rRepS := by
  intro pins s σ H x y v u Q I rx ry h
  obtain ⟨c, k, rfl, rfl, h1, h2, q⟩ := h
  obtain ⟨t, rfl⟩ := rx
  obtain ⟨t', rfl⟩ := ry
  have hl : (⟨#[c]⟩ : Str).length = 1 := rfl
  refine P.mul_str (by rw [decide_eq_false (by omega), decide_eq_false (by omega)]; rfl) (fun _ _ => ?_) (fun _ _ => ?_) ?_
  · rw [hl]
    have : (1 : Int) ≤ (2 ^ 63 - 1) / k := by
      rw [Int.le_ediv_iff_mul_le (by omega)]
      omega
    omega
  · rw [hl, Nat.one_mul]
    unfold Builtin.Str.tooLong
    exact decide_eq_false (by rw [sizeLine_eq]; omega)
  · rw [if_neg (by omega)]
    by_cases e : k = 1
    · subst e
      rw [if_pos (by rfl)]
      exact ⟨.str ⟨#[c]⟩, H, I, ⟨t, rfl⟩, q⟩
    · rw [if_neg (by
        rw [hl]
        simp [e])]
      have e2 : (⟨(List.replicate k.toNat (⟨#[c]⟩ : Str).cps).foldl (· ++ ·) #[]⟩ : Str) = ⟨Array.replicate k.toNat c⟩ := by
        rw [rep_arr]
        simp
      rw [e2]
      refine ⟨?_, .str ⟨Array.replicate k.toNat c⟩, H, I.tok _, ⟨_, rfl⟩, q⟩
      show (Array.replicate k.toNat c).size ≤ _
      rw [Array.size_replicate]
      exact Nat.le_of_lt (small1000 (by omega))
/-! ### tuples of texts among the module's names -/
def strOf : Value → Option Str
  | .str z _ => some z
  | _ => none
def tupB (K : PySem.W.Frag) (x : Str) (zs : List Str) : Bool := match K.lookup (He.ga K x) with
  | some ⟨.type c, _, .seq its _, _⟩ => decide (c = "tuple") && decide (its.toList.map strOf = zs.map some)
  | _ => false
theorem vals_strs : ∀ {us : List Value} {zs : List Str}, us.map strOf = zs.map some → Vals (zs.map V.str) us
  | [], [], _ => .nil
  | u :: us, z :: zs, h => by
    have h1 : strOf u = some z := by simpa using (List.cons.inj h).1
    have h2 : us.map strOf = zs.map some := (List.cons.inj h).2
    refine .cons ?_ (vals_strs h2)
    cases u with
    | str y t =>
      have : y = z := by simpa [strOf] using h1
      exact ⟨t, by rw [this]⟩
    | _ => cases h1
  | [], _ :: _, h => by simp at h
  | _ :: _, [], h => by simp at h
theorem tupB_ok {K : PySem.W.Frag} {x : Str} {zs : List Str} (h : tupB K x zs = true) (hz : zs.length ≤ 1000) (H : Hp) : SqT K H (He.ga K x) (zs.map V.str) := by
  unfold tupB at h
  cases e : K.lookup (He.ga K x) with
  | none =>
    rw [e] at h
    cases h
  | some o =>
    obtain ⟨oc, od, dt, sl⟩ := o
    rw [e] at h
    cases oc with
    | type c =>
      cases dt with
      | seq its n =>
        have h : (decide (c = "tuple") && decide (its.toList.map strOf = zs.map some)) = true := h
        rw [Bool.and_eq_true] at h
        have h2 := of_decide_eq_true h.2
        have hv := vals_strs h2
        have hl := hv.length
        rw [List.length_map] at hl
        refine .inr ⟨_, its, n, e, ?_, rfl, ?_, hv⟩
        · show Value.type c = Value.type "tuple"
          rw [of_decide_eq_true h.1]
        · have : its.size = its.toList.length := by simp
          rw [this, ← hl]
          exact Nat.le_of_lt (small1000 hz)
      | _ => cases h
    | _ => cases dt <;> cases h
/-! ### things by their kind -/
inductive TyV (H : Hp) : V → String → Prop
  | bl (b : Bool) : TyV H (.bl b) "bool"
  | non : TyV H .non "NoneType"
  | int (n : Int) : TyV H (.int n) "int"
  | str (z : Str) : TyV H (.str z) "str"
  | lst {l : Addr} {xs : List V} : H l = some (.lst xs) → TyV H (.ref l) "list"
  | tup {l : Addr} {xs : List V} : H l = some (.tup xs) → TyV H (.ref l) "tuple"
  | dct {l : Addr} {kvs : List (Key × V)} : H l = some (.dK kvs) → TyV H (.ref l) "dict"
theorem TyV.kp {H H' : Hp} {v : V} {n : String} (h : TyV H v n) (a : Kp H H') : TyV H' v n := by
  cases h with
  | bl b => exact .bl b
  | non => exact .non
  | int n => exact .int n
  | str z => exact .str z
  | lst h => exact .lst (a.lst h)
  | tup h => exact .tup (a.tup h)
  | dct h => exact .dct (a.dct h)
theorem TyV.x {K : PySem.W.Frag} {H : Hp} {v : V} {n : String} (h : TyV H v n) : TyX K H v (.type n) := by
  cases h with
  | bl b => exact .base (.bl b)
  | non => exact .base .non
  | int n => exact .base (.int n)
  | str z => exact .base (.str z)
  | lst h => exact .base (.lst h)
  | tup h => exact .base (.tup h)
  | dct h => exact .base (.dK h)
theorem TyV.noStr {H : Hp} {v : V} {n : String} (h : TyV H v n) (ne : n ≠ "str") : kitB n "str" = some false := by
  cases h with
  | str z => exact absurd rfl ne
  | _ => decide +kernel
theorem TyV.noTup {H : Hp} {v : V} {n : String} (h : TyV H v n) (ne : n ≠ "tuple") : kitB n "tuple" = some false := by
  cases h with
  | tup z => exact absurd rfl ne
  | _ => decide +kernel
/-- is_name's answer -/
def NmV (H : Hp) (x : V) (k : Bool) : Prop := (∃ n, TyV H x n ∧ n ≠ "str" ∧ k = false) ∨ ∃ z : Str, x = .str z ∧ z.length ≤ 1000 ∧ k = nmB z
theorem NmV.kp {H H' : Hp} {x : V} {k : Bool} (h : NmV H x k) (a : Kp H H') : NmV H' x k := by
  rcases h with ⟨n, t, r⟩ | h
  · exact .inl ⟨n, t.kp a, r⟩
  · exact .inr h
theorem NmV.of_nm {H : Hp} {z : Str} (h : nmB z = true) : NmV H (.str z) true := by
  refine .inr ⟨z, rfl, ?_, h.symm⟩
  unfold nmB at h
  rw [Bool.and_eq_true, Bool.and_eq_true] at h
  have := of_decide_eq_true h.2.1
  omega
/-! ### lists of names -/
theorem nd_range {n : Nat} {F : Nat → Str} (h : ∀ i j, i < n → j < n → F i = F j → i = j) : ((List.range n).map F).Nodup := by
  unfold List.Nodup
  rw [List.pairwise_map]
  refine List.Pairwise.imp_of_mem (R := fun a b => a ≠ b) (fun {a b} ha hb hab e => hab (h a b (List.mem_range.mp ha) (List.mem_range.mp hb) e)) List.nodup_range
theorem nm_mid {a b : Str} {c : Nat} (ha : a.cps.toList.all smB = true) (hb : b.cps.toList.all smB = true) (hc : smB c = true) (hl : a.length + b.length ≤ 7) : nmB (a ++ ⟨#[c]⟩ ++ b) = true := by
  unfold nmB
  have l1 : (⟨#[c]⟩ : Str).length = 1 := rfl
  have e : (a ++ ⟨#[c]⟩ ++ b).length = a.length + 1 + b.length := by rw [Str.length_append, Str.length_append, l1]
  have e2 : (a ++ ⟨#[c]⟩ ++ b).cps.toList = a.cps.toList ++ [c] ++ b.cps.toList := by
    show ((a.cps ++ #[c]) ++ b.cps).toList = _
    simp
  rw [e, e2, decide_eq_true (by omega), decide_eq_true (by omega), List.all_append, List.all_append, ha, hb]
  simp [hc]
theorem inj_mid {a b : Str} {c d : Nat} (h : a ++ (⟨#[c]⟩ : Str) ++ b = a ++ ⟨#[d]⟩ ++ b) : c = d := by
  have e2 : ∀ x : Nat, (a ++ (⟨#[x]⟩ : Str) ++ b).cps.toList = a.cps.toList ++ ([x] ++ b.cps.toList) := fun x => by
    show ((a.cps ++ #[x]) ++ b.cps).toList = _
    simp
  have h2 : (a ++ (⟨#[c]⟩ : Str) ++ b).cps.toList = (a ++ (⟨#[d]⟩ : Str) ++ b).cps.toList := by rw [h]
  rw [e2, e2] at h2
  have h3 := List.append_cancel_left h2
  exact (List.cons.inj h3).1
theorem nm_rep {c n : Nat} (hc : smB c = true) (h1 : 1 ≤ n) (h8 : n ≤ 8) : nmB ⟨Array.replicate n c⟩ = true := by
  unfold nmB
  have e : (⟨Array.replicate n c⟩ : Str).length = n := by show (Array.replicate n c).size = n; simp
  rw [e, decide_eq_true h1, decide_eq_true h8]
  simp [hc]
theorem all_cut {z : Str} (h : z.cps.toList.all smB = true) (lo hi : Option Int) : (cutS z lo hi).cps.toList.all smB = true := by
  rw [List.all_eq_true] at h ⊢
  intro c hc
  unfold cutS at hc
  rw [List.toList_toArray] at hc
  exact h c (List.mem_of_mem_drop (List.mem_of_mem_take hc))
theorem all_join : ∀ ys : List Str, (∀ y ∈ ys, y.cps.toList.all smB = true) → (Str.join "" ys).cps.toList.all smB = true
  | [], _ => rfl
  | [y], h => h y (by simp)
  | x :: z :: r, h => by
    have ih := all_join (z :: r) fun y hy => h y (List.mem_cons_of_mem _ hy)
    show (x ++ "" ++ Str.join "" (z :: r)).cps.toList.all smB = true
    have e : (x ++ "" ++ Str.join "" (z :: r)).cps.toList = x.cps.toList ++ (Str.join "" (z :: r)).cps.toList := by
      show ((x.cps ++ #[]) ++ (Str.join "" (z :: r)).cps).toList = _
      simp
    rw [e, List.all_append, ih, h x (by simp)]
    rfl
theorem letter_at : ∀ j, j < 26 → ("abcdefghijklmnopqrstuvwxyz" : Str).cps.toList[j]? = some (97 + j) := by decide +kernel
theorem letter_sm {j : Nat} (h : j < 26) : smB (97 + j) = true := by
  unfold smB
  rw [decide_eq_true (by omega), decide_eq_true (by omega)]
  rfl
end Zk
set_option Elab.async false
set_option linter.all false
set_option maxRecDepth 100000
set_option maxHeartbeats 2000000
/-! Sets that comprehensions make: of texts, of ints, of tuples of texts; min, max of two texts. -/
namespace Zk
open PySem PySem.Spec PyProof.Rows L2
/-! ### min, max of two texts -/
def sLt (x y : Str) : Bool := decide (x.cps.toList < y.cps.toList)
section
variable {prog : Program} {w : World} {A : Around} {E : Value → Shared → Prop} {s : Shared}
theorem cmpTxtLt {P : Nat → Value → Prop} (val : Nat → Str) (hval : ∀ i v, P i v → ∃ t, v = .str (val i) t) : CmpOf prog w A .Lt P (fun i j => sLt (val i) (val j)) := fun i j vi vj s Q E hi hj h => by
  obtain ⟨t, rfl⟩ := hval i vi hi
  obtain ⟨u, rfl⟩ := hval j vj hj
  exact richCompare_gives (op := .Lt) (typeIs_str s _ t) (typeIs_str s _ u) F.slot_str_lt F.entry_str_lt (F.args_str_lt_2 _ _) (gives_str_lt _ _ t u) (fun x => nomatch x) h
theorem cmpTxtGt {P : Nat → Value → Prop} (val : Nat → Str) (hval : ∀ i v, P i v → ∃ t, v = .str (val i) t) : CmpOf prog w A .Gt P (fun i j => sLt (val j) (val i)) := fun i j vi vj s Q E hi hj h => by
  obtain ⟨t, rfl⟩ := hval i vi hi
  obtain ⟨u, rfl⟩ := hval j vj hj
  exact richCompare_gives (op := .Gt) (typeIs_str s _ t) (typeIs_str s _ u) F.slot_str_gt F.entry_str_gt (F.args_str_gt_2 _ _) (gives_str_gt _ _ t u) (fun x => nomatch x) h
def twoAt (x y : Str) : Nat → Str := fun i => if i = 0 then x else y
theorem twoAt_of {x y : Str} {t u : Tok} {i : Nat} {v : Value} (h : (#[Value.str x t, Value.str y u] : Array Value)[i]? = some v) : ∃ t, v = .str (twoAt x y i) t := by
  match i with
  | 0 => exact ⟨t, (Option.some.inj h).symm⟩
  | 1 => exact ⟨u, (Option.some.inj h).symm⟩
  | n + 2 => simp at h
theorem two_fresh {a b : Value} {c : Addr} (hc : c ∈ [(s.heap.push { cls := .type "tuple", data := .seq #[a, b] }).objs.size, s.heap.objs.size]) (o : Obj) : c < ((s.heap.push { cls := .type "tuple", data := .seq #[a, b] }).push o).objs.size := by
  have e1 : (s.heap.push { cls := .type "tuple", data := .seq #[a, b] }).objs.size = s.heap.objs.size + 1 := Heap.size_push ..
  have e2 : ((s.heap.push { cls := .type "tuple", data := .seq #[a, b] }).push o).objs.size = s.heap.objs.size + 1 + 1 := by rw [Heap.size_push, e1]
  rw [e1] at hc
  rw [e2]
  rcases List.mem_cons.mp hc with q | q
  · rw [q]; exact Nat.lt_succ_self _
  · rw [List.mem_singleton.mp q]; exact Nat.lt_succ_of_lt (Nat.lt_succ_self _)
theorem two_kept {a b : Value} {o' : Obj} {h' : Heap} (hk : ∀ b' o, b' ∉ [(s.heap.push { cls := .type "tuple", data := .seq #[a, b] }).objs.size] → ((s.heap.push { cls := .type "tuple", data := .seq #[a, b] }).push o').get? b' = some o → h'.get? b' = some o) : ∀ c o, s.heap.get? c = some o → h'.get? c = some o := fun c o e => by
  refine hk c o (fun hm => ?_) (Heap.get?_push_of_some _ (Heap.get?_push_of_some _ e))
  have e1 : (s.heap.push { cls := .type "tuple", data := .seq #[a, b] }).objs.size = s.heap.objs.size + 1 := Heap.size_push ..
  have lt := Heap.lt_size e
  rw [List.mem_singleton.mp hm, e1] at lt
  exact Nat.lt_irrefl _ (Nat.lt_of_succ_lt lt)
theorem min_two_txt {x y : Str} {t u : Tok} {Q : Value → Shared → Prop} (hh : A.handled = none) (h : ∀ h' tk, (∀ c o, s.heap.get? c = some o → h'.get? c = some o) → Q (if sLt y x = true then .str y u else .str x t) { s with heap := h', toks := tk }) :
    wpAny (model prog w) A (call (.builtin "min") [.str x t, .str y u]) Q E s := by
  have hT : (s.heap.push { cls := .type "tuple", data := .seq #[.str x t, .str y u] }).IsTuple s.heap.objs.size #[.str x t, .str y u] := ⟨_, Heap.get?_push_size _ rfl, rfl, 0, rfl⟩
  refine call_min_two (wpAny_pyIter_tuple hT ⟨_, [_, s.heap.objs.size], [_], _, _, _, _, rfl, Walks.tuple (A := A.in1) hh _ s.heap.objs.size (by rw [Heap.size_push]; exact Nat.ne_of_lt (Nat.lt_succ_self _)) #[.str x t, .str y u],
    ⟨⟨_, Heap.get?_push_size _ rfl, rfl, rfl⟩, hT.push _⟩, fun c hc => two_fresh hc _, by simp, cmpTxtLt (twoAt x y) (fun _ _ => twoAt_of), fun v h' tk hP hk => ?_⟩)
  have q := h h' tk (two_kept hk)
  have e : v = if sLt y x = true then Value.str y u else Value.str x t := by
    have hP' : (#[Value.str x t, Value.str y u] : Array Value)[argBest (fun i j => sLt (twoAt x y i) (twoAt x y j)) 1]? = some v := hP
    have eb : argBest (fun i j => sLt (twoAt x y i) (twoAt x y j)) 1 = if sLt y x = true then 1 else 0 := rfl
    rw [eb] at hP'
    cases hc : sLt y x with
    | true => rw [hc] at hP'; exact (Option.some.inj hP').symm
    | false => rw [hc] at hP'; exact (Option.some.inj hP').symm
  rw [e]
  exact q
theorem max_two_txt {x y : Str} {t u : Tok} {Q : Value → Shared → Prop} (hh : A.handled = none) (h : ∀ h' tk, (∀ c o, s.heap.get? c = some o → h'.get? c = some o) → Q (if sLt x y = true then .str y u else .str x t) { s with heap := h', toks := tk }) :
    wpAny (model prog w) A (call (.builtin "max") [.str x t, .str y u]) Q E s := by
  have hT : (s.heap.push { cls := .type "tuple", data := .seq #[.str x t, .str y u] }).IsTuple s.heap.objs.size #[.str x t, .str y u] := ⟨_, Heap.get?_push_size _ rfl, rfl, 0, rfl⟩
  refine call_max_two (wpAny_pyIter_tuple hT ⟨_, [_, s.heap.objs.size], [_], _, _, _, _, rfl, Walks.tuple (A := A.in1) hh _ s.heap.objs.size (by rw [Heap.size_push]; exact Nat.ne_of_lt (Nat.lt_succ_self _)) #[.str x t, .str y u],
    ⟨⟨_, Heap.get?_push_size _ rfl, rfl, rfl⟩, hT.push _⟩, fun c hc => two_fresh hc _, by simp, cmpTxtGt (twoAt x y) (fun _ _ => twoAt_of), fun v h' tk hP hk => ?_⟩)
  have q := h h' tk (two_kept hk)
  have e : v = if sLt x y = true then Value.str y u else Value.str x t := by
    have hP' : (#[Value.str x t, Value.str y u] : Array Value)[argBest (fun i j => sLt (twoAt x y j) (twoAt x y i)) 1]? = some v := hP
    have eb : argBest (fun i j => sLt (twoAt x y j) (twoAt x y i)) 1 = if sLt x y = true then 1 else 0 := rfl
    rw [eb] at hP'
    cases hc : sLt x y with
    | true => rw [hc] at hP'; exact (Option.some.inj hP').symm
    | false => rw [hc] at hP'; exact (Option.some.inj hP').symm
  rw [e]
  exact q
end
def rMinS : List V → Hp → VK → Prop := fun xs H Q => ∃ x y : Str, xs = [.str x, .str y] ∧ Q (.str (if sLt y x = true then y else x)) H
def rMaxS : List V → Hp → VK → Prop := fun xs H Q => ∃ x y : Str, xs = [.str x, .str y] ∧ Q (.str (if sLt x y = true then y else x)) H
section
variable {X : Cx}
theorem call_minS (hc : X.calm = true) : CallR X (.builtin "min") rMinS := by
  intro pins s σ H xs us Q I r h
  obtain ⟨x, y, rfl, q⟩ := h
  obtain ⟨u, w', rfl, ⟨t, rfl⟩, ⟨t', rfl⟩⟩ := vals2 r
  refine min_two_txt (I.ok.hd hc) fun h' tk k => ⟨_, H, I.kept k, ?_, q⟩
  cases hj : sLt y x
  · exact ⟨_, rfl⟩
  · exact ⟨_, rfl⟩
theorem call_maxS (hc : X.calm = true) : CallR X (.builtin "max") rMaxS := by
  intro pins s σ H xs us Q I r h
  obtain ⟨x, y, rfl, q⟩ := h
  obtain ⟨u, w', rfl, ⟨t, rfl⟩, ⟨t', rfl⟩⟩ := vals2 r
  refine max_two_txt (I.ok.hd hc) fun h' tk k => ⟨_, H, I.kept k, ?_, q⟩
  cases hj : sLt x y
  · exact ⟨_, rfl⟩
  · exact ⟨_, rfl⟩
end
/-! ### a set comprehension whose element is added by any rule of set.add -/
abbrev newSetObj (w : World) : Obj := { cls := .type "set", dict := none, data := .set #[] 0 (.fresh 0 0 (!w.params.followText "set-order")) }
def tScG (SO : Addr → HO) (r : V → List V → Hp → VK → Prop) (wi : TI) (g : TG) (tt : TT) (te : TE) (vs : List Nat) : TE := fun σ H Q => wi σ H fun J H1 => ∀ D, H1 D = none → ∃ W : Nat → Nat → Hp → Prop, (∃ m, W 0 m (upd H1 D (SO D))) ∧ ∀ i m H, W i m H →
  (J.stop i H ∧ Q (.ref D) H) ∨ (J.go i H ∧ ∃ Nx : Hp → Prop, (∀ H', Nx H' → ∃ m', m' < m ∧ W (i + 1) m' H') ∧ ∀ x H', J.yld i H x H' → g x (wipe σ vs) H' fun σ2 H2 => wipe σ2 vs = wipe σ vs ∧ tt σ2 H2 fun b H3 =>
    if b = true then te σ2 H3 fun y H4 => r (.ref D) [y] H4 (fun _ H5 => Nx H5) else Nx H3)
section
variable {X : Cx}
/-- what a new, empty set is tracked as -/
def Starts (P : Program) (w : World) (SO : Addr → HO) : Prop := ∀ (H : Hp) (h : Heap) (D : Addr), h.get? D = some (newSetObj w) → ObjOk P w H h D (SO D)
theorem pe_scG {SO : Addr → HO} {r : V → List V → Hp → VK → Prop} {elt tg iter : Expr} {ifs : List Expr} {scope : Scope} {own : List (PySem.Str × Nat)} {pos : Pos} {wi : TI} {g : TG} {tt : TT} {te : TE}
    (hSO : Starts X.prog X.w SO) (hc : X.calm = true) (hN : X.N.Nodup) (hi : PI X tg iter wi) (ok : BlkOk X.N X.env.scope scope own)
    (hg : ∀ (s : Shared) (H : Hp) (C : Addr) (cl : List (PySem.Str × Addr)) (fp : List Addr), PG (X.blk s H scope (compEnvC scope cl C X.env) fp) tg g)
    (ht : ∀ (s : Shared) (H : Hp) (C : Addr) (cl : List (PySem.Str × Addr)) (fp : List Addr), PTs (X.blk s H scope (compEnvC scope cl C X.env) fp) ifs tt)
    (he : ∀ (s : Shared) (H : Hp) (C : Addr) (cl : List (PySem.Str × Addr)) (fp : List Addr), PE (X.blk s H scope (compEnvC scope cl C X.env) fp) elt te)
    (ha : ∀ (s : Shared) (H : Hp) (C : Addr) (cl : List (PySem.Str × Addr)) (fp : List Addr), MtR (X.blk s H scope (compEnvC scope cl C X.env) fp) "set.add" r)
    (hs : ∀ x, foldedSetIterable iter X.env x = pure x := by intro _; rfl) : PE X (.SetComp elt [⟨tg, iter, ifs, 0⟩] scope pos) (tScG SO r wi g tt te (own.map (·.2))) := by
  refine ⟨fun pins s σ H Q I h => ?_⟩
  rw [PpSet.eval_SetComp]
  have free : ∀ y ∈ scope.names, y.2 = .free → ∃ c, X.env.cells.lookup y.1 = some c := fun y hy e => (ok.free y hy e).elim (fun k => I.ok.has _ (.inl k)) (fun k => I.ok.has _ (.inr k))
  refine wpAny_comprehension_free (use := none) rfl hs (closure_ok free) ok.kind (fun y hy e => by rw [ok.uniq y hy, e]) (thn (hi.run pins s σ H _ I h) fun xv s1 hx => thn hx fun itv s2 ⟨it, fp, tn, J, H2, e, I2, T, st2, f2, q⟩ => ?_)
  subst e
  refine PpSet.newSet_ok (newEnv_comp ?_)
  generalize eD : s2.heap.objs.size = D
  obtain ⟨W, ⟨m0, w0⟩, turn⟩ := q D (I2.hok.fresh (Nat.le_of_eq eD))
  generalize e3 : ({ s2 with heap := s2.heap.push (newSetObj X.w) } : Shared) = s3
  have k3 : s3.heap = s2.heap.push (newSetObj X.w) := by rw [← e3]
  generalize eH : upd H2 D (SO D) = H3 at w0
  have I3 : Inv X pins σ H3 s3 := by
    rw [← e3, ← eH]
    exact I2.laid (t' := s2.toks) (fun b o e => Heap.get?_push_of_some _ e) (Nat.le_of_eq eD) (hSO _ _ D (by rw [← eD]; exact Heap.get?_push_size _ rfl))
  have f3 : ∀ b ∈ fp, FpOk X pins H3 b ∧ b < s3.heap.objs.size := fun b hb => by
    obtain ⟨o, eo, _⟩ := T.obj _ _ st2 b hb
    have lt := Heap.lt_size eo
    refine ⟨⟨?_, (f2 b hb).2⟩, by rw [k3, Heap.size_push]; exact Nat.lt_succ_of_lt lt⟩
    rw [← eH, upd_ne (by rw [← eD]; exact Nat.ne_of_lt lt)]
    exact (f2 b hb).1
  have I4 := block_start I3 ok hN f3
  have st3 : tn 0 s3.heap := T.keep _ _ _ st2 fun b _ o e => by rw [k3]; exact Heap.get?_push_of_some _ e
  generalize ecl : cellsFrom (s3.heap.objs.size + 1) scope.names (cloFrom X.env.cells scope.names []) = cl at I4 ⊢
  have pg := hg s3 H3 s3.heap.objs.size cl fp
  have pt := ht s3 H3 s3.heap.objs.size cl fp
  have pe := he s3 H3 s3.heap.objs.size cl fp
  have pa := ha s3 H3 s3.heap.objs.size cl fp
  show codeAny _ _ (.compStart (.SetComp elt [⟨tg, iter, ifs, 0⟩] scope pos) 0 (.ref it) (.ref D) (compEnvC scope cl s3.heap.objs.size X.env)) (compPost (model X.prog X.w) X.A X.xe none _ (.ref D) s3.heap.objs.size) { s3 with heap := pushCells (s3.heap.push { cls := .type "dict", data := .dict #[] }) scope.names }
  generalize ece : compEnvC scope cl s3.heap.objs.size X.env = ce at I4 pg pt pe pa ⊢
  have eL : ce.locals = s3.heap.objs.size := by rw [← ece]; rfl
  generalize e4 : ({ s3 with heap := pushCells (s3.heap.push { cls := .type "dict", data := .dict #[] }) scope.names } : Shared) = s4 at I4 ⊢
  have st4 : tn 0 s4.heap := T.keep _ _ _ st3 fun b _ o e => by rw [← e4]; exact pushCells_keeps _ _ _ _ (Heap.get?_push_of_some _ e)
  have stat : ∀ {σ' : L2.St} {H' : Hp} {s' : Shared}, Inv (X.blk s3 H3 scope ce fp) [] σ' H' s' → (∀ b ∈ fp, H' b = none) → ∀ b ∈ fp, FpOk (X.blk s3 H3 scope ce fp) [] H' b := fun {σ' H' s'} J' hn b hb =>
    ⟨hn b hb, (J'.ok.exf b hb).1, J'.ok.exfs b hb, .inl hb, fun x c e => (J'.ok.exf b hb).2 x c e, fun p hp => absurd (show p ∈ ([] : List (Addr × Obj)) ++ [] from hp) (by simp)⟩
  have loop : codeAny (model X.prog X.w) X.A (.compLoop (.SetComp elt [⟨tg, iter, ifs, 0⟩] scope pos) 0 (.ref it) (.ref D) ce) (compPost (model X.prog X.w) X.A X.xe none (EP X pins σ Q) (.ref D) s3.heap.objs.size) s4 := by
    refine PpSet.compLoopS_any (fun n s' => ∃ i H', Inv (X.blk s3 H3 scope ce fp) [] (wipe σ (own.map (·.2))) H' s' ∧ tn i s'.heap ∧ (∀ b ∈ fp, H' b = none) ∧ W i n H') ?_ m0 ⟨0, H3, I4, st4, fun b hb => (f3 b hb).1.1, w0⟩
    rintro n s5 ⟨i, H5, I5, st5, n5, w5⟩
    rcases turn i n H5 w5 with ⟨stop, qq⟩ | ⟨go, Nx, hNx, step⟩
    · refine thnF (T.done (X.blk s3 H3 scope ce fp) rfl rfl rfl hc i [] s5 _ H5 (fun _ _ => False) I5 (stat I5 n5) st5 stop) fun rr s6 ⟨hr, I6⟩ => ?_
      subst hr
      have I7 : Inv X pins σ H5 s6 := I3.call' (ch := fp) I6.os I6.base I6.hok I6.bare fun b hb => ⟨(f3 b hb).1.2.2.2.1, (f3 b hb).1.2.1, (f3 b hb).1.2.2.2.2.1, (f3 b hb).1.2.2.2.2.2⟩
      have nC : H5 s3.heap.objs.size = none := by rw [← eL]; exact I6.free
      obtain ⟨mm, hn, _⟩ := I6.loc
      have hn : s6.heap.Ns ce.locals mm := hn
      rw [eL] at hn
      obtain ⟨u0, u1, u2, u3, u4, u5⟩ := I3.fpOk (Nat.le_refl _) nC
      exact ⟨mm, hn, fun h'' sb => ⟨.ref D, H5, I7.turned (t' := s6.toks) (fun b o hb e => (sb.2 b hb).trans e) u0 u1 u3 u4 u5, rfl, qq⟩⟩
    · refine thnF (T.item (X.blk s3 H3 scope ce fp) rfl rfl rfl hc i [] s5 _ H5 (fun _ _ => False) I5 (stat I5 n5) st5 go) fun rr s6 ⟨u, hr, h6⟩ => ?_
      subst hr
      refine thnF h6 fun _ s7 ⟨x, H7, I7, r7, y7, st7, n7⟩ => ?_
      have I7' := I7.pinned (stat I7 n7) (T.obj _ _ st7)
      have fin : ∀ {s' : Shared} {H' : Hp} {σ8 : L2.St}, wipe σ8 (own.map (·.2)) = wipe σ (own.map (·.2)) → Inv (X.blk s3 H3 scope ce fp) ([] ++ pinsAt fp s7.heap) σ8 H' s' → Nx H' → ∃ m, m < n ∧ ∃ i H', Inv (X.blk s3 H3 scope ce fp) [] (wipe σ (own.map (·.2))) H' s' ∧ tn i s'.heap ∧ (∀ b ∈ fp, H' b = none) ∧ W i m H' := fun {s' H' σ8} hw8 I' nx => by
        obtain ⟨m', hm, w'⟩ := hNx H' nx
        have held : ∀ b ∈ fp, ∀ o, s7.heap.get? b = some o → s'.heap.get? b = some o ∧ H' b = none := fun b hb o e => by
          have z := I'.pin (b, o) (List.mem_append_right _ (List.mem_append_right _ (mem_pinsAt hb e)))
          exact ⟨z.1, z.2.1⟩
        refine ⟨m', hm, i + 1, H', (I'.unpinned (pins := [])).weak (by rw [← hw8, wipe_length]) (fun j v e => (wipe_some (hw8 ▸ e)).1), T.keep _ _ _ st7 fun b hb o e => (held b hb o e).1, fun b hb => ?_, w'⟩
        obtain ⟨o, e, _⟩ := T.obj _ _ st7 b hb
        exact (held b hb o e).2
      refine thnF (pg.run _ s7 _ H7 x u _ I7' r7 (step x H7 y7)) fun _ s8 ⟨σ8, H8, I8, hw8, q8⟩ => thnF (pt.run _ s8 σ8 H8 _ I8 q8) fun b s9 ⟨H9, I9, q9⟩ => ?_
      cases b with
      | false => simp only [Bool.false_eq_true, if_false] at q9 ⊢; exact fin hw8 I9 q9
      | true =>
        simp only [if_true] at q9 ⊢
        refine thnF (pe.run _ s9 σ8 H9 _ I9 q9) fun z s10 ⟨yv, H10, I10, r10, nx⟩ => ?_
        exact thnF (pa _ s10 σ8 H10 (.ref D) [yv] (.ref D) [z] _ I10 rfl (.cons r10 .nil) nx) fun _ s11 ⟨_, H11, I11, _, n11⟩ => fin hw8 I11 n11
  exact PpSet.codeAny_compStart_set loop (T.self X.A 0 _ _ _ st4 loop)
end
end Zk
set_option Elab.async false
set_option linter.all false
set_option maxRecDepth 100000
set_option maxHeartbeats 4000000
/-! Sets of tuples of texts and ints: a table over the library's words on tables (TabOk, go_spec, relaid_ok). -/
namespace Zk
open PySem PySem.Spec PyProof.Rows L2
abbrev TKey := List Key
abbrev kh (P : Program) (w : World) (k : TKey) : Int := tupleKeyHash (mixKind P w) k
abbrev IsP (P : Program) (w : World) (h : Heap) (k : TKey) (a : Addr) : Prop := IsTupleKey (mixKind P w) h k a
abbrev pr (t : SetTable) (h : Int) (c : Nat) : SetTable.Probe := nth t.mask (runAt t.mask (SetTable.bits h % (t.mask + 1)) (SetTable.bits h)) c
/-- the table's entries of these members -/
abbrev ents (P : Program) (w : World) (L : List (Addr × TKey)) : List (Int × Value) := L.map fun m => (kh P w m.2, Value.ref m.1)
abbrev hshs (P : Program) (w : World) (L : List (Addr × TKey)) : List Int := L.map fun m => kh P w m.2
def Flat (v : Value) : Prop := (∃ i t, v = Value.int i t) ∨ ∃ x t, v = Value.str x t
section
variable {P : Program} {w : World} {A : Around} {E : Value → Shared → Prop} {s : Shared}
theorem flat_items {k : TKey} {vs : List Value} (h : ItemsAre (mixKind P w) k vs) : ∀ v ∈ vs, Flat v := by
  induction h with
  | nil => exact fun v hv => nomatch hv
  | cons h1 _ ih =>
    intro v hv
    cases List.mem_cons.mp hv with
    | inr z => exact ih v z
    | inl z =>
      rw [z]
      rcases keyIs_shape h1 with ⟨i, t, _, e⟩ | ⟨x, t, _, e⟩
      · exact .inl ⟨i, t, e⟩
      · exact .inr ⟨x, t, e⟩
theorem flat_cls (n : Nat) {v : Value} (f : Flat v) : ofAClassStatement n v = pure false := by
  rcases f with ⟨i, t, rfl⟩ | ⟨x, t, rfl⟩ <;> cases n <;> rfl
theorem flat_hash (n : Nat) {v : Value} (f : Flat v) : ∃ b, hashByValue n v = pure b := by
  rcases f with ⟨i, t, rfl⟩ | ⟨x, t, rfl⟩
  · exact ⟨true, by cases n <;> rfl⟩
  · exact ⟨false, by cases n <;> rfl⟩
/-- a tuple of such is of no class statement -/
theorem cls_tup {k : TKey} {b : Addr} {Q : Bool → Shared → Prop} (hk : IsP P w s.heap k b) (h : Q false s) : wpAny (model P w) A (ofAClassStatement 8 (.ref b)) Q E s := by
  have ty := hk.typeIs
  obtain ⟨o, items, n, ho, _, hd, its⟩ := hk
  have fl := flat_items its
  unfold ofAClassStatement
  refine wpAny_bind (wpAny_typeOf ty ?_); dsimp only
  simp only [show (("tuple" : String) == "tuple") = true by decide, if_true, Bool.not_true, Bool.false_eq_true, if_false]
  try (refine wpAny_bind (wpAny_pure ?_); try simp only [Bool.not_true, Bool.false_eq_true, if_false])
  show wpAny (model P w) A (seqItems? (.ref b) >>= _) _ E s
  refine wpAny_bind (wpAny_seqItems ho hd ?_); dsimp only
  refine wpAny_bind ?_
  show wpAny (model P w) A (forIn items _ _) _ E s
  rw [← Array.forIn_toList]
  refine wpAny_forIn_list _ (fun left r s' => (∀ v ∈ left, Flat v) ∧ s' = s ∧ r.1 = none) _ ?_ ?_ _ _ ⟨fl, rfl, rfl⟩
  · rintro v left r s' ⟨al, rfl, hr⟩
    rw [flat_cls _ (al v List.mem_cons_self)]
    refine wpAny_bind (wpAny_pure ?_); simp only [Bool.false_eq_true, if_false]
    exact wpAny_pure ⟨fun u hu => al u (List.mem_cons_of_mem _ hu), rfl, rfl⟩
  · rintro ⟨r1, r2⟩ s' ⟨_, rfl, hr⟩
    cases (show r1 = none from hr)
    exact wpAny_pure h
/-- whether its hash is by value is told -/
theorem hashed_tup {k : TKey} {b : Addr} {Q : Bool → Shared → Prop} (hk : IsP P w s.heap k b) (h : ∀ c, Q c s) : wpAny (model P w) A (hashByValue 8 (.ref b)) Q E s := by
  have ty := hk.typeIs
  obtain ⟨o, items, n, ho, _, hd, its⟩ := hk
  have fl := flat_items its
  unfold hashByValue
  refine wpAny_bind (wpAny_specialOf ty F.slot_tuple_hash.lookup ?_)
  show wpAny (model P w) A (seqItems? (.ref b) >>= _) _ E s
  refine wpAny_bind (wpAny_seqItems ho hd (wpAny_bind ?_))
  show wpAny (model P w) A (forIn items _ _) _ E s
  rw [← Array.forIn_toList]
  refine wpAny_forIn_list _ (fun left r s' => (∀ v ∈ left, Flat v) ∧ s' = s ∧ r.1 = none) _ ?_ ?_ _ _ ⟨fl, rfl, rfl⟩
  · rintro v left r s' ⟨al, rfl, hr⟩
    obtain ⟨c, e⟩ := flat_hash 7 (al v List.mem_cons_self)
    rw [e]
    refine wpAny_bind (wpAny_pure ?_)
    cases c with
    | true => simp only [Bool.not_true, Bool.false_eq_true, if_false]; exact wpAny_pure ⟨fun u hu => al u (List.mem_cons_of_mem _ hu), rfl, rfl⟩
    | false => simp only [Bool.not_false, if_true]; exact wpAny_pure (wpAny_pure (h false))
  · rintro ⟨r1, r2⟩ s' ⟨_, rfl, hr⟩
    cases (show r1 = none from hr)
    exact wpAny_pure (h true)
/-- nothing is shown by a search among such tuples -/
theorem unseen {k : TKey} {b : Addr} {Q : Bool → Shared → Prop} (hk : IsP P w s.heap k b) {ys : List Value} (hy : ∀ y ∈ ys, ∃ k' c, y = Value.ref c ∧ IsP P w s.heap k' c) (h : Q false s) : wpAny (model P w) A (searchCouldBeSeen (.ref b) ys) Q E s := by
  unfold searchCouldBeSeen
  refine wpAny_bind (wpAny_forIn_list _ (fun left r s' => (∀ y ∈ left, ∃ k' c, y = Value.ref c ∧ IsP P w s.heap k' c) ∧ s' = s ∧ r.1 = none) _ ?_ ?_ _ _ ⟨hy, rfl, rfl⟩)
  · rintro v left r s' ⟨al, rfl, hr⟩
    obtain ⟨k', c, rfl, ic⟩ := al v List.mem_cons_self
    have al' : ∀ y ∈ left, ∃ k' c, y = Value.ref c ∧ IsP P w s'.heap k' c := fun u hu => al u (List.mem_cons_of_mem _ hu)
    dsimp only
    by_cases hv : (b == c || (carriedByValue (.ref b) && carriedByValue (.ref c))) = true
    · exact wp_if_pos hv (wpAny_pure ⟨al', rfl, rfl⟩)
    · refine wp_if_neg hv (wpAny_bind (wpAny_eqIsQuiet_tuple hk ?_)); simp only [Bool.not_true, Bool.false_eq_true, if_false]
      refine wpAny_bind (wpAny_eqIsQuiet_tuple ic ?_); simp only [Bool.not_true, Bool.false_eq_true, if_false]
      refine wpAny_bind (cls_tup hk ?_); simp only [Bool.false_eq_true, if_false]
      refine wpAny_bind (cls_tup ic ?_); simp only [Bool.false_eq_true, if_false]
      exact wpAny_pure ⟨al', rfl, rfl⟩
  · rintro ⟨r1, r2⟩ s' ⟨_, rfl, hr⟩
    cases (show r1 = none from hr)
    exact wpAny_pure h
/-- the set at a, its members L in the table's order -/
structure PSet (P : Program) (w : World) (h : Heap) (a : Addr) (L : List (Addr × TKey)) (es : Array (Int × Value)) (ep : Nat) (t : SetTable) : Prop where
  obj : ∃ o, h.get? a = some o ∧ o.ExactSet ∧ o.data = .set es ep t
  row : es.toList = ents P w L
  tab : TabOk t (hshs P w L)
  one : (L.map (·.2)).Nodup
  key : ∀ m ∈ L, IsP P w h m.2 m.1
  led : w.params.followText "set-order" = true ∨ t.led = true
  room : L.length * 5 < t.mask * 3
  few : L.length < 64
variable {a : Addr} {L : List (Addr × TKey)} {es : Array (Int × Value)} {ep : Nat} {t : SetTable}
theorem ents_size (h : es.toList = ents P w L) : es.size = L.length := by
  rw [← Array.length_toList, h, List.length_map]
theorem fits_of (h1 : t.place.size = es.size) (h2 : t.dummies = #[]) (h3 : es.size ≤ t.mask) : t.fits es.size = true := by
  unfold SetTable.fits SetTable.fill
  rw [h2, Bool.and_eq_true, beq_iff_eq, decide_eq_true_eq]
  exact ⟨h1, by show t.place.size + 0 ≤ t.mask; omega⟩
theorem PSet.place (R : PSet P w s.heap a L es ep t) : t.place.size = L.length := by
  rw [R.tab.sz, List.length_map]
theorem PSet.fits (R : PSet P w s.heap a L es ep t) : t.fits es.size = true := by
  have h1 := R.place
  have h2 := ents_size R.row
  have h3 := R.room
  exact fits_of (by omega) R.tab.dm (by omega)
theorem PSet.at (R : PSet P w s.heap a L es ep t) {i : Nat} {m : Addr × TKey} (h : L[i]? = some m) : es[i]? = some (kh P w m.2, Value.ref m.1) := by
  rw [← Array.getElem?_toList, R.row, List.getElem?_map, h] <;> rfl
theorem PSet.stays (R : PSet P w s.heap a L es ep t) : ¬ t.gaveWay = true := by
  unfold SetTable.gaveWay
  rw [mask_odd R.tab.mok]
  decide
theorem pr_add (t : SetTable) (h : Int) (c q : Nat) : nth t.mask (pr t h c) q = pr t h (c + q) := (nth_add t.mask c _ q).symm
theorem pr_dm (t : SetTable) (h : Int) (c : Nat) : (pr t h c).dummy = none := by
  have all : ∀ (n : Nat) (p : SetTable.Probe), p.dummy = none → (nth t.mask p n).dummy = none := by
    intro n
    induction n with
    | zero => exact fun p h => h
    | succ n ih => exact fun p h => ih (adv t.mask p) (by unfold adv; split <;> exact h)
  exact all c _ rfl
/-- the search, from its c-th step on: n the first free step -/
theorem srch (R : PSet P w s.heap a L es ep t) {x : Addr} {k : TKey} (hx : IsP P w s.heap k x) (hu : A.units < cLine) {n : Nat} (hn : n < 10 * SetTable.turns t.mask)
    (fr : (pr t (kh P w k) n).j ∉ t.place.toList) (bs : ∀ c, c < n → (pr t (kh P w k) c).j ∈ t.place.toList) {Q : SetFound → Shared → Prop} (yes : k ∈ L.map (·.2) → Q (.there none) s) (no : k ∉ L.map (·.2) → Q (.free (pr t (kh P w k) n).j false) s) (f : Nat) :
    ∀ (c : Nat) (stand : Option SetTable.Probe), stand.getD (t.probeStart (kh P w k)) = pr t (kh P w k) c → c ≤ n → n - c < f →
      (∀ (i : Nat) m, L[i]? = some m → m.2 = k → ∃ c', c ≤ c' ∧ c' < n ∧ t.place.toList[i]? = some (pr t (kh P w k) c').j) → wpAny (model P w) A (setSearchFrom a (.ref x) (kh P w k) true f stand) Q E s := by
  induction f with
  | zero => exact fun c _ _ _ z _ => absurd z (Nat.not_lt_zero _)
  | succ f ih =>
    intro c stand hst hc hf ahead
    obtain ⟨o, ho, hex, hd⟩ := R.obj
    generalize eh : kh P w k = hv at *
    rw [setSearchFrom_succ]
    refine wpAny_bind (wpAny_setState_of ho hd R.fits (wp_if_neg R.stays ?_))
    try refine wpAny_bind (wpAny_pure ?_)
    have hat : ∀ (i : Nat) m, L[i]? = some m → (es[i]?.map (·.1)).getD 0 = kh P w m.2 := fun i m hm => by rw [R.at hm] <;> rfl
    have spec := go_spec t R.tab.ris R.tab.dm (fun i => (es[i]?.map (·.1)).getD 0) hv (10 * SetTable.turns t.mask) (n - c) (pr t hv c) (pr_dm t hv c) (by omega)
      (fun q hq => by rw [pr_add]; exact bs (c + q) (by omega)) (by rw [pr_add, show c + (n - c) = n by omega]; exact fr)
    have passed : ∀ q, (∀ (k' i' : Nat), k' < q → t.place.toList[i']? = some (nth t.mask (pr t hv c) k').j → (es[i']?.map (·.1)).getD 0 ≠ hv) → ∀ (i : Nat) m c', L[i]? = some m → m.2 = k → c ≤ c' → t.place.toList[i]? = some (pr t hv c').j → c + q ≤ c' := fun q nq i m c' hm hk h1 h2 => by
      rcases Nat.lt_or_ge c' (c + q) with z | z
      · exfalso
        refine nq (c' - c) i (by omega) (by rw [pr_add, show c + (c' - c) = c' by omega]; exact h2) ?_
        rw [hat i m hm, hk, eh]
      · exact z
    rcases spec with ⟨q, i, hq, hi, hh, nq, go⟩ | ⟨nq, go⟩
    · rw [pr_add, pr_add] at go
      rw [pr_add] at hi
      have go' : t.probe (fun i => (es[i]?.map (·.1)).getD 0) hv (stand.getD (t.probeStart hv)) = some (.candidate (pr t hv (c + q)).j i (pr t hv (c + (q + 1)))) := by rw [hst]; exact go
      rw [go']
      dsimp only
      have il : i < L.length := by
        have z := (List.getElem?_eq_some_iff.mp hi).1
        rw [Array.length_toList, R.place] at z
        exact z
      obtain ⟨m, hm⟩ : ∃ m, L[i]? = some m := ⟨_, List.getElem?_eq_getElem il⟩
      have mem : m ∈ L := List.mem_of_getElem? hm
      have live : t.slot (pr t hv (c + q)).j = .live i := slot_live R.tab.ris hi
      have rest : wpAny (model P w) A (searchRest a (.ref x) hv true f es t (pr t hv (c + q)).j i (pr t hv (c + (q + 1)))) Q E s := by
        unfold searchRest
        rw [R.at hm]
        refine wpAny_bind (wpAny_holding (wpAny_eqBool_tuple hu (R.key m mem) hx (wpAny_bind (wpAny_setState_of ho hd R.fits ?_))))
        dsimp only
        by_cases same : m.2 = k
        · exact wp_if_pos (by simp [same]) (wpAny_pure (yes (List.mem_map.mpr ⟨m, mem, same⟩)))
        · refine wp_if_neg (by simp [same]) ?_
          try refine wpAny_bind (wpAny_pure ?_)
          rw [sameMem]
          simp only [if_true, live, R.at hm]
          refine wpAny_bind (wpAny_isSame_ref_self (wpAny_bind (wpAny_pure ?_)))
          simp only [if_true]
          refine wp_if_neg (by simp [same]) (ih (c + (q + 1)) _ rfl (by omega) (by omega) fun j m' hj hk => ?_)
          obtain ⟨c', a1, a2, a3⟩ := ahead j m' hj hk
          have ge := passed q nq j m' c' hj hk a1 a3
          refine ⟨c', ?_, a2, a3⟩
          rcases Nat.lt_or_ge (c + q) c' with y | y
          · omega
          · exfalso
            rw [Nat.le_antisymm y ge] at a3
            have l2 := slot_live R.tab.ris a3
            rw [live] at l2
            injection l2 with l2
            rw [← l2, hm] at hj
            cases hj
            exact same hk
      by_cases ld : t.led = true
      · refine wp_if_neg (by simp [ld]) ?_
        try refine wpAny_bind (wpAny_pure ?_)
        exact rest
      · refine wp_if_pos (by simp [ld]) (wpAny_bind (unseen hx (fun y hy => ?_) (wp_if_neg (by decide) ?_)))
        · obtain ⟨e, he, ee⟩ := List.mem_map.mp hy
          have he1 : e ∈ es ∧ e.1 = hv := by simpa using he
          have he2 : e ∈ es.toList := by simpa using he1.1
          rw [R.row] at he2
          obtain ⟨m2, hm2, e2⟩ := List.mem_map.mp he2
          exact ⟨m2.2, m2.1, by rw [← ee, ← e2], R.key m2 hm2⟩
        · try refine wpAny_bind (wpAny_pure ?_)
          exact rest
    · rw [pr_add, show c + (n - c) = n by omega] at go
      have go' : t.probe (fun i => (es[i]?.map (·.1)).getD 0) hv (stand.getD (t.probeStart hv)) = some (.empty (pr t hv n).j none) := by rw [hst]; exact go
      rw [go']
      refine wpAny_pure (no fun hm => ?_)
      obtain ⟨m, h0, hk⟩ := List.mem_map.mp hm
      obtain ⟨j, hj⟩ := List.mem_iff_getElem?.mp h0
      obtain ⟨c', a1, a2, a3⟩ := ahead j m hj hk
      have ge := passed (n - c) nq j m c' hj hk a1 a3
      omega
/-- the search as adding asks for it -/
theorem srch_at (R : PSet P w s.heap a L es ep t) {x : Addr} {k : TKey} (hx : IsP P w s.heap k x) (hu : A.units < cLine) {Q : SetFound → Shared → Prop} (yes : k ∈ L.map (·.2) → Q (.there none) s)
    (no : ∀ n, k ∉ L.map (·.2) → (pr t (kh P w k) n).j ∉ t.place.toList → (∀ c, c < n → (pr t (kh P w k) c).j ∈ t.place.toList) → Q (.free (pr t (kh P w k) n).j false) s) : wpAny (model P w) A (setSearch a (.ref x) (kh P w k) true) Q E s := by
  have room := R.room
  obtain ⟨n, hn, fr, bs⟩ := R.tab.first (by rw [List.length_map]; omega) (kh P w k)
  have lt : n < 100000 := by
    have le : 10 * SetTable.turns t.mask ≤ 1420 := by unfold SetTable.turns; rcases R.tab.mok with e | e | e <;> omega
    omega
  unfold setSearch
  refine srch R hx hu hn fr bs yes (fun z => no n z fr bs) 100000 0 none rfl (Nat.zero_le _) (by omega) fun i m hm hk => ?_
  have il : i < t.place.toList.length := by rw [Array.length_toList, R.place]; exact (List.getElem?_eq_some_iff.mp hm).1
  have hj := List.getElem?_eq_getElem il
  obtain ⟨c, hc, e⟩ := R.tab.before fr (show (hshs P w L)[i]? = some (kh P w k) by rw [List.getElem?_map, hm, ← hk]; rfl) hj
  exact ⟨c, Nat.zero_le _, hc, hj.trans (congrArg some e.symm)⟩
theorem isP_same {h h' : Heap} {k : TKey} {b : Addr} {o : Obj} (hb : IsP P w h k b) (ho : h.get? a = some o) (hd : o.data = .set es ep t) (sb : Heap.SameBut a h h') : IsP P w h' k b := by
  obtain ⟨o', items, n, ho', hc, hd', its⟩ := hb
  refine ⟨o', items, n, (sb.2 b fun z => ?_).trans ho', hc, hd', its⟩
  rw [z, ho] at ho'
  cases ho'
  rw [hd] at hd'
  cases hd'
theorem range_pick {α : Type} : ∀ l : List α, (List.range l.length).filterMap (fun i => l[i]?) = l
  | [] => rfl
  | x :: l => by
    rw [List.length_cons, List.range_succ_eq_map, List.filterMap_cons_some (f := fun i => (x :: l)[i]?) (b := x) rfl, List.filterMap_map]
    exact congrArg (x :: ·) (range_pick l)
theorem ents_order {order : Array Nat} (row : es.toList = ents P w L) (hp : order.toList.Perm (List.range L.length)) :
    ∃ L2, (order.filterMap (es[·]?)).toList = ents P w L2 ∧ L2.Perm L ∧ hshs P w L2 = order.toList.map fun i => (es.map (·.1)).getD i 0 := by
  have at' : ∀ i : Nat, es[i]? = (L[i]?).map fun m => (kh P w m.2, Value.ref m.1) := fun i => by rw [← Array.getElem?_toList, row, List.getElem?_map]
  refine ⟨order.toList.filterMap fun i => L[i]?, ?_, ?_, ?_⟩
  · have e1 : (order.filterMap (es[·]?)).toList = order.toList.filterMap fun i => es[i]? := by first | rw [Array.toList_filterMap] | simp
    rw [e1]
    show _ = List.map _ _
    rw [List.map_filterMap]
    exact congrArg (List.filterMap · order.toList) (funext at')
  · have z := hp.filterMap fun i => L[i]?
    rw [range_pick] at z
    exact z
  · show List.map _ _ = _
    rw [List.map_filterMap]
    have each : ∀ i ∈ order.toList, (L[i]?).map (fun m => kh P w m.2) = some ((es.map (·.1)).getD i 0) := fun i hi => by
      have il : i < L.length := List.mem_range.mp (hp.mem_iff.mp hi)
      have e5 : (es.map (·.1))[i]? = some (kh P w (L[i]).2) := by rw [Array.getElem?_map, at' i, List.getElem?_eq_getElem il]; rfl
      rw [List.getElem?_eq_getElem il, Array.getD_eq_getD_getElem?, e5]
      rfl
    generalize order.toList = l at each
    induction l with
    | nil => rfl
    | cons i l ih =>
      rw [List.filterMap_cons_some (f := fun (x : Nat) => Option.map (fun (m : Addr × TKey) => kh P w m.2) L[x]?) (each i List.mem_cons_self), List.map_cons, ih fun j hj => each j (List.mem_cons_of_mem _ hj)]
/-- the table laid anew -/
theorem relay {o : Obj} (ho : s.heap.get? a = some o) (hex : o.ExactSet) (hd : o.data = .set es ep t) (row : es.toList = ents P w L) (pl : t.place.size = es.size) (dm : t.dummies = #[]) (le : es.size ≤ t.mask) (one : (L.map (·.2)).Nodup)
    (key : ∀ m ∈ L, IsP P w s.heap m.2 m.1) (led : w.params.followText "set-order" = true ∨ t.led = true) (few : L.length < 64) {wanted M : Nat} (hw : SetTable.sizeAbove wanted - 1 = M) (hM : MaskOk M) (h128 : SetTable.sizeAbove wanted ≤ 128) (hn : L.length * 5 < M * 3)
    {Q : Unit → Shared → Prop} (hQ : ∀ h' L' es' ep' t', Heap.SameBut a s.heap h' → PSet P w h' a L' es' ep' t' → L'.Perm L → Q () { s with heap := h' }) : wpAny (model P w) A (setRelay a wanted) Q E s := by
  have size := ents_size row
  obtain ⟨t', order, e, hp, T, em, el, _, ed⟩ := relaid_ok t (hs := es.map (·.1)) (wanted := wanted) hw hM (by rw [Array.size_map, size]; omega)
  rw [Array.size_map, size] at hp
  obtain ⟨L2, r1, r2, r3⟩ := ents_order row hp
  rw [← r3] at T
  have size2 : (order.filterMap (es[·]?)).size = es.size := by rw [ents_size r1, r2.length_eq, size]
  rw [setRelay_eq]
  refine wpAny_bind (wpAny_setState_of ho hd (fits_of pl dm le) (wp_if_neg (by rw [sizeLine_eq]; omega) ?_))
  try refine wpAny_bind (wpAny_pure ?_)
  rw [e]
  refine wpAny_bind (wp_if_neg (by rw [size2]; simp) ?_)
  try refine wpAny_bind (wpAny_pure ?_)
  refine wpAny_pure (wpAny_storeSet_of ho hd ?_ (by rw [size2, size, sizeLine_eq]; omega))
  have sb : Heap.SameBut a s.heap (s.heap.update a (Obj.putSet (order.filterMap (es[·]?)) t')) := Heap.SameBut.update ..
  exact hQ _ L2 (order.filterMap (es[·]?)) (ep + 1) t' sb ⟨⟨_, store_at ho hd, ⟨hex.1, hex.2.1, hex.2.2⟩, rfl⟩, r1, T, (r2.map (·.2)).nodup_iff.mpr one, fun m hm => isP_same (key m (r2.mem_iff.mp hm)) ho hd sb, by rw [el]; exact led, by rw [r2.length_eq, em]; exact hn, by rw [r2.length_eq]; exact few⟩ r2
theorem tab_plain {hs : List Int} (T : TabOk t hs) (b : Bool) : TabOk (if b = true then t else { t with plain := false }) hs := by
  cases b with
  | true => exact T
  | false => exact ⟨T.ris, T.dm, T.sz, T.mok, T.bd, T.reach⟩
/-- a member is added -/
theorem add (R : PSet P w s.heap a L es ep t) {x : Addr} {k : TKey} (hx : IsP P w s.heap k x) (hu : A.units < cLine) (few : L.length + 1 < 64) {Q : Bool → Shared → Prop}
    (hQ : ∀ b h' L' es' ep' t', Heap.SameBut a s.heap h' → PSet P w h' a L' es' ep' t' → (k ∈ L.map (·.2) → L' = L) → (k ∉ L.map (·.2) → L'.Perm ((x, k) :: L)) → Q b { s with heap := h' }) : wpAny (model P w) A (setAddHashed a (.ref x) (kh P w k)) Q E s := by
  obtain ⟨o, ho, hex, hd⟩ := R.obj
  have size := ents_size R.row
  have room := R.room
  unfold setAddHashed
  rw [show (100000 : Nat) = 99999 + 1 from rfl, setAddHashedIn_succ]
  refine wpAny_holding (wpAny_bind (wpAny_setState_of ho hd R.fits (wp_if_neg (by simp [byScan, Value.scannable]) ?_)))
  try refine wpAny_bind (wpAny_pure ?_)
  refine wpAny_bind (srch_at R hx hu (fun hm => wpAny_pure (hQ false s.heap L es ep t (Heap.SameBut.refl a s.heap) R (fun _ => rfl) fun z => absurd hm z)) fun n hm fr bs => ?_)
  refine wpAny_bind (wpAny_setState_of ho hd R.fits ?_); dsimp only
  obtain ⟨q1, q2, q3, q4, q5, q6, q7, q8, q9⟩ := R.tab.put fr bs
  have hs : way t.mask (kh P w k) n = (pr t (kh P w k) n).j := rfl
  rw [hs] at q1 q2 q3 q4 q5 q6 q7 q8 q9
  generalize (pr t (kh P w k) n).j = slot at q1 q2 q3 q4 q5 q6 q7 q8 q9 ⊢
  generalize ept : t.put slot = pt at q1 q3 q4 q5 q6 q7 q8 q9 ⊢
  obtain ⟨t1, p'⟩ := pt
  dsimp only at q1 q3 q4 q5 q6 q7 q8 q9 ⊢
  subst q1
  generalize SetTable.below t.place slot = p at q2 q3 ⊢
  have step : ∀ c : Bool, wpAny (model P w) A (do
      let t := if c = true then t1 else { t1 with plain := false }
      storeSet a (SetTable.insertAt es p (kh P w k, Value.ref x)) t
      if (!false && t.tooFull) = true then setRelay a (SetTable.grown (es.size + 1))
      return true) Q E s := fun c => by
    have T1 := tab_plain q3 c
    have m1 : (if c = true then t1 else { t1 with plain := false }).mask = t1.mask := by cases c <;> rfl
    have l1 : (if c = true then t1 else { t1 with plain := false }).led = t1.led := by cases c <;> rfl
    have f1 : (if c = true then t1 else { t1 with plain := false }).tooFull = t1.tooFull := by cases c <;> rfl
    generalize (if c = true then t1 else { t1 with plain := false }) = t2 at T1 m1 l1 f1 ⊢
    dsimp only
    have pm := put_perm L p (x, k)
    have hen : (SetTable.insertAt es p (kh P w k, Value.ref x)).toList = ents P w (L.take p ++ (x, k) :: L.drop p) := by
      rw [SetTable.toList_insertAt, R.row]
      show _ = List.map _ _
      rw [List.map_append, List.map_cons, List.map_take, List.map_drop]
    have hhs : hshs P w (L.take p ++ (x, k) :: L.drop p) = (hshs P w L).take p ++ kh P w k :: (hshs P w L).drop p := by
      show List.map _ _ = _
      rw [List.map_append, List.map_cons, List.map_take, List.map_drop]
    rw [← hhs] at T1
    have one1 : ((L.take p ++ (x, k) :: L.drop p).map (·.2)).Nodup := (pm.map (·.2)).nodup_iff.mpr (List.nodup_cons.mpr ⟨hm, R.one⟩)
    generalize SetTable.insertAt es p (kh P w k, Value.ref x) = es1 at hen ⊢
    generalize L.take p ++ (x, k) :: L.drop p = L1 at pm hen T1 one1
    have len1 : L1.length = L.length + 1 := pm.length_eq
    have size1 : es1.size = L.length + 1 := by rw [ents_size hen, len1]
    refine wpAny_bind (wpAny_storeSet_of ho hd ?_ (by rw [size1, sizeLine_eq]; omega))
    have sb : Heap.SameBut a s.heap (s.heap.update a (Obj.putSet es1 t2)) := Heap.SameBut.update ..
    have ho1 := store_at (es' := es1) (t' := t2) ho hd
    generalize s.heap.update a (Obj.putSet es1 t2) = h1 at sb ho1 ⊢
    have key1 : ∀ m ∈ L1, IsP P w h1 m.2 m.1 := fun m hm' => by
      rcases List.mem_cons.mp (pm.mem_iff.mp hm') with e | hm'
      · rw [e]; exact isP_same hx ho hd sb
      · exact isP_same (R.key m hm') ho hd sb
    have led1 : w.params.followText "set-order" = true ∨ t2.led = true := by rw [l1, q5]; exact R.led
    by_cases full : t2.tooFull = true
    · first
        | refine wpAny_bind (wp_if_pos (by simp [full]) ?_)
        | refine wp_if_pos (by simp [full]) (wpAny_bind ?_)
      have ge : (L.length + 1) * 5 ≥ t.mask * 3 := by
        rw [f1] at full
        unfold SetTable.tooFull at full
        rw [decide_eq_true_eq, q9, List.length_map, q4] at full
        exact full
      have pl2 : t2.place.size = es1.size := by rw [T1.sz, List.length_map, len1, size1]
      have two : (t.mask = 7 ∧ L.length = 4) ∨ (t.mask = 31 ∧ L.length = 18) := by
        rcases R.tab.mok with e | e | e
        · left; rw [e] at room ge; exact ⟨e, by omega⟩
        · right; rw [e] at room ge; exact ⟨e, by omega⟩
        · exfalso; rw [e] at ge; omega
      have go : ∀ M, SetTable.sizeAbove (SetTable.grown (L.length + 1)) - 1 = M → MaskOk M → SetTable.sizeAbove (SetTable.grown (L.length + 1)) ≤ 128 → (L.length + 1) * 5 < M * 3 →
          wpAny (model P w) A (setRelay a (SetTable.grown (es.size + 1))) (fun _ s' => wpAny (model P w) A (pure true) Q E s') E { s with heap := h1 } := fun M g1 g2 g3 g4 => by
        rw [size]
        refine relay (s := { s with heap := h1 }) ho1 ⟨hex.1, hex.2.1, hex.2.2⟩ rfl hen pl2 T1.dm (by rw [size1, m1, q4]; rcases two with ⟨e, e2⟩ | ⟨e, e2⟩ <;> omega) one1 key1 led1 (by rw [len1]; exact few) g1 g2 g3 (by rw [len1]; exact g4) ?_
        exact fun h2 L2 es2 ep2 t2 sb2 R2 pm2 => wpAny_pure (hQ true h2 L2 es2 ep2 t2 (sb.trans sb2) R2 (fun z => absurd z hm) fun _ => pm2.trans pm)
      rcases two with ⟨_, e2⟩ | ⟨_, e2⟩
      · exact go 31 (by rw [e2, size_20]) (.inr (.inl rfl)) (by rw [e2, size_20]; decide) (by omega)
      · exact go 127 (by rw [e2, size_76]) (.inr (.inr rfl)) (by rw [e2, size_76]; decide) (by omega)
    · have room1 : L1.length * 5 < t2.mask * 3 := by
        rw [f1] at full
        unfold SetTable.tooFull at full
        rw [decide_eq_true_eq, q9, List.length_map, q4] at full
        rw [len1, m1, q4]
        omega
      first
        | refine wp_if_neg (by simp [full]) ?_
        | refine wpAny_bind (wp_if_neg (by simp [full]) (wpAny_pure ?_))
      exact wpAny_pure (hQ true h1 L1 es1 (ep + 1) t2 sb ⟨⟨_, ho1, ⟨hex.1, hex.2.1, hex.2.2⟩, rfl⟩, hen, T1, one1, key1, led1, room1, by rw [len1]; exact few⟩ (fun z => absurd z hm) fun _ => pm)
  by_cases tp : t1.plain = true
  · first
      | exact wpAny_bind (wp_if_pos tp (hashed_tup hx step))
      | exact wp_if_pos tp (wpAny_bind (hashed_tup hx step))
  · first
      | exact wpAny_bind (wp_if_neg tp (wpAny_pure (step true)))
      | exact wp_if_neg tp (step true)
      | exact wp_if_neg tp (wpAny_bind (wpAny_pure (step true)))
end
/-! ### as tracked things -/
/-- the set at a by its members, in whatever order its table has them -/
def PS0 (P : Program) (w : World) (h : Heap) (a : Addr) (L : List (Addr × TKey)) : Prop :=
  ∃ (es : Array (Int × Value)) (ep : Nat) (t : SetTable) (L' : List (Addr × TKey)), L'.Perm L ∧ (∃ o, h.get? a = some o ∧ o.ExactSet ∧ o.data = .set es ep t) ∧ es.toList = ents P w L' ∧ TabOk t (hshs P w L') ∧ (L'.map (·.2)).Nodup ∧
    (w.params.followText "set-order" = true ∨ t.led = true) ∧ L'.length * 5 < t.mask * 3 ∧ L'.length < 64
def SetP (P : Program) (w : World) (a : Addr) (L : List (Addr × TKey)) : HO := .ext fun h => PS0 P w h a L
section
variable {P : Program} {w : World} {h h' : Heap} {a : Addr} {L L' : List (Addr × TKey)} {es : Array (Int × Value)} {ep : Nat} {t : SetTable}
theorem PSet.ps0 (R : PSet P w h a L' es ep t) (p : L'.Perm L) : PS0 P w h a L := ⟨es, ep, t, L', p, R.obj, R.row, R.tab, R.one, R.led, R.room, R.few⟩
theorem ps0_full (R : PS0 P w h a L) (key : ∀ m ∈ L, IsP P w h m.2 m.1) : ∃ L' es ep t, L'.Perm L ∧ PSet P w h a L' es ep t := by
  obtain ⟨es, ep, t, L', p, h1, h2, h3, h4, h5, h6, h7⟩ := R
  exact ⟨L', es, ep, t, p, h1, h2, h3, h4, fun m hm => key m (p.mem_iff.mp hm), h5, h6, h7⟩
theorem setP_new {H : Hp} (R : PS0 P w h a L) : ObjOk P w H h a (SetP P w a L) := by
  refine ⟨R, ?_, fun h1 h2 p k => ?_⟩
  · obtain ⟨_, _, _, _, _, ⟨o, ho, _⟩, _⟩ := R
    exact ⟨o, ho⟩
  · obtain ⟨es, ep, t, L', p, ⟨o, ho, r⟩, q⟩ := p
    exact ⟨es, ep, t, L', p, ⟨o, k o ho, r⟩, q⟩
theorem starts_P : Starts P w fun D => SetP P w D [] := fun H h D ho => setP_new ⟨#[], 0, .fresh 0 0 (!w.params.followText "set-order"), [], .nil, ⟨_, ho, ⟨rfl, rfl, rfl⟩, rfl⟩, rfl, ⟨List.Pairwise.nil, rfl, rfl, .inl rfl, fun x hx => (by cases hx), fun i h j hi => (by simp at hi)⟩, List.nodup_nil, by
  show _ ∨ (!w.params.followText "set-order") = true
  cases w.params.followText "set-order"
  · exact .inr rfl
  · exact .inl rfl, by show 0 * 5 < 7 * 3; decide, by show 0 < 64; decide⟩
theorem starts_K : Starts P w fun D => SetK P w D (fun _ => false) 0 := fun H h D ho => setK_new ⟨_, #[], 0, _, ho, ⟨rfl, rfl, rfl⟩, rfl, (fun e he => by simp at he), (fun k => by simp), (by decide), (by rfl), rfl⟩
end
theorem items_vals {P : Program} {w : World} : ∀ {k : TKey} {us : List Value}, Vals (k.map kV) us → ItemsAre (mixKind P w) k us
  | [], _, .nil => .nil
  | n :: k, _, .cons r t => .cons (kV_is r) (items_vals t)
section
variable {X : Cx} {pins : List (Addr × Obj)} {σ : L2.St} {H : Hp} {s : Shared}
theorem inv_isP {b : Addr} {k : TKey} (I : Inv X pins σ H s) (h : SqT X.K H b (k.map kV)) : IsP X.prog X.w s.heap k b := by
  obtain ⟨its, r, ⟨o, ho, hc, n, hd⟩, _⟩ := I.tuple h
  exact ⟨o, its.toArray, n, ho, hc, hd, by simpa using items_vals r⟩
/-- set.add of a tuple -/
def rSAddP (K : PySem.W.Frag) (P : Program) (w : World) : V → List V → Hp → VK → Prop := fun x xs H Q => ∃ (a p : Addr) (k : TKey) (L L2 : List (Addr × TKey)), x = .ref a ∧ xs = [.ref p] ∧ H a = some (SetP P w a L) ∧ SqT K H p (k.map kV) ∧ (∀ m ∈ L, SqT K H m.1 (m.2.map kV)) ∧ L.length + 1 < 64 ∧
  (k ∈ L.map (fun m => m.2) → L2 = L) ∧ (k ∉ L.map (fun m => m.2) → L2 = (p, k) :: L) ∧ Q .non (upd H a (SetP P w a L2))
theorem mt_saddP (hu : X.A.units + 64 < cLine) : MtR X "set.add" (rSAddP X.K X.prog X.w) := by
  intro pins s σ H x xs v us Q I rx rxs h
  obtain ⟨a, p, k, L, Ln, rfl, rfl, ha, hp, hL, few, l1, l2, q⟩ := h
  cases rx
  cases rxs with
  | cons ry rt =>
    cases rt
    cases ry
    obtain ⟨L', es, ep, t, pm, R⟩ := ps0_full (I.hok a _ ha).1 fun m hm => inv_isP I (hL m hm)
    have hx := inv_isP I hp
    obtain ⟨o, ho, hex, hd⟩ := R.obj
    have ty : s.TypeIs (.ref a) "set" := ⟨o, ho, hex.1⟩
    refine wpAny_call_entry F.slot_set_add ty F.entry_set_add ?_ (F.args_set_add_2 _ _)
    unfold Builtin.«set.add» Builtin.Frozenset.oneOther
    simp only [List.isEmpty_nil, bind_assoc]
    unfold Builtin.Frozenset.addrOf setAdd
    refine wpAny_bind (wpAny_pure ?_); try dsimp only
    refine wpAny_bind (wpAny_pure ?_); try dsimp only
    refine wpAny_bind (wpAny_holding (wpAny_bind (wpAny_pyHash_tuple (by rw [Around.in1_units]; omega) hx ?_)))
    have mem : k ∈ L'.map (·.2) ↔ k ∈ L.map (·.2) := (pm.map (·.2)).mem_iff
    refine add (s := { s with toks := s.toks + (k.length + 1) }) R hx (by rw [Around.in1_units]; omega) (by rw [pm.length_eq]; exact few) fun b h' L2 es2 ep2 t2 sb R2 y n => ?_
    show wpAny (model X.prog X.w) X.A.in1 (ret Value.none) _ _ _
    have he : ∃ u, h'.get? a = some u := by obtain ⟨o2, ho2, _⟩ := R2.obj; exact ⟨o2, ho2⟩
    refine wpAny_pure ⟨_, rfl, .non, _, I.write (e := a) (t' := s.toks + (k.length + 1)) (by rw [ha]; trivial) (.inl rfl) (fun b u hb hu => (sb.2 b hb).trans hu) he (setP_new (R2.ps0 ?_)), rfl, q⟩
    rcases Classical.em (k ∈ L.map (·.2)) with hm | hm
    · rw [l1 hm, y (mem.mpr hm)]
      exact pm
    · rw [l2 hm]
      exact (n fun z => hm (mem.mp z)).trans (pm.cons _)
/-- len of a set of keys; of a set of tuples -/
def rLenSK (P : Program) (w : World) : List V → Hp → VK → Prop := fun xs H Q => ∃ a S n, xs = [.ref a] ∧ H a = some (SetK P w a S n) ∧ Q (.int (n : Nat)) H
def rLenSP (P : Program) (w : World) : List V → Hp → VK → Prop := fun xs H Q => ∃ a L, xs = [.ref a] ∧ H a = some (SetP P w a L) ∧ Q (.int (L.length : Nat)) H
theorem call_lenSK : CallR X (.builtin "len") (rLenSK X.prog X.w) := by
  intro pins s σ H xs us Q I r h
  obtain ⟨a, S, n, rfl, ha, q⟩ := h
  obtain ⟨u, rfl, ru⟩ := vals1 r
  cases ru
  obtain ⟨o, es, ep, t, ho, hex, hd, _, _, hb, hf, hn⟩ := setK_get I ha
  have h63 : es.size < 2 ^ 63 := Nat.lt_of_lt_of_le hb (by decide)
  subst hn
  exact call_len_set ho hex hd hf (by omega) ⟨.int (es.size : Nat), H, (I.tok _).tok _, ⟨_, rfl⟩, q⟩
theorem call_lenSP : CallR X (.builtin "len") (rLenSP X.prog X.w) := by
  intro pins s σ H xs us Q I r h
  obtain ⟨a, L, rfl, ha, q⟩ := h
  obtain ⟨u, rfl, ru⟩ := vals1 r
  cases ru
  obtain ⟨es, ep, t, L', pm, ⟨o, ho, hex, hd⟩, row, tab, _, _, room, few⟩ := (I.hok a _ ha).1
  have size := ents_size row
  have pl : t.place.size = L'.length := by rw [tab.sz, List.length_map]
  have e : es.size = L.length := by rw [size, pm.length_eq]
  exact call_len_set ho hex hd (fits_of (by omega) tab.dm (by omega)) (by omega) ⟨.int (L.length : Nat), H, (I.tok _).tok _, ⟨_, by rw [e]⟩, q⟩
end
end Zk
set_option Elab.async false
set_option linter.all false
set_option maxRecDepth 100000
set_option maxHeartbeats 2000000
/-! What checking webs needs: pairs and lists turned about, all over elements that leave tables, the sets' turns. -/
namespace Zk
open PySem PySem.Spec PyProof.Rows L2 GxR
/-! ### (x, y)[::-1], xs[::-1] -/
section
variable {prog : Program} {w : World} {A : Around} {E : Value → Shared → Prop} {s : Shared}
theorem getItem_rev2 {t sl : Addr} {u v vl vu vs : Value} {Q : Value → Shared → Prop} (ht : IsTup s.heap t #[u, v]) (hs : s.heap.IsSliceOf sl vl vu vs) (pl : IsPart vl none) (pu : IsPart vu none) (ps : IsPart vs (some (-1)))
    (h : Q (.ref s.heap.objs.size) { s with heap := s.heap.push { cls := .type "tuple", data := .seq #[v, u] } }) : wpAny (model prog w) A (getItem (.ref t) (.ref sl)) Q E s := by
  obtain ⟨os, hos, hcs, hds⟩ := id hs
  have hTs : s.TypeIs (.ref sl) "slice" := ⟨os, hos, hcs⟩
  unfold getItem
  try with_reducible refine wpAny_holding ?_
  first | refine wpAny_bind (wpAny_pure ?_) | skip
  refine wpAny_bind (wpAny_sequenceKey ht.typeIs (by decide) (wpAny_bind (wpAny_callSpecial?_slot (name := Str.ofString "__getitem__") ht.typeIs PyProof.Rows.slot_tuple_getitem (wpAny_call_entry PyProof.Rows.slot_tuple_getitem ht.typeIs entry_tuple_getitem ?_ (args_tuple_getitem _ _)))))
  show wpAny (model prog w) _ (Builtin.Tuple.tupleItemsOf (.ref t) >>= _) _ E s
  refine wpAny_bind (tupleItemsOf_ ht (wpAny_bind (wpAny_typeOf hTs ?_)))
  rw [if_pos (by decide)]
  refine wpAny_bind ?_
  unfold Builtin.Slice.sliceApplied Builtin.Slice.sliceFields
  refine wpAny_bind (wpAny_bind (wpAny_field hos hds (x := vl) rfl (wpAny_bind (wpAny_field hos hds (x := vu) rfl (wpAny_bind (wpAny_field hos hds (x := vs) rfl (wpAny_pure ?_)))))))
  refine wpAny_bind (HT.slicePart_ ps ?_)
  show wpAny (model prog w) _ (if ((-1 : Int) == 0) = true then _ else _) _ E s
  rw [if_neg (by decide)]
  refine wpAny_bind (HT.slicePart_ pl (wpAny_bind (HT.slicePart_ pu (wpAny_bind (wpAny_pure (wpAny_pure ?_))))))
  have two : ¬ (((1 : Int) == 0 && (-1 : Int) == 1 && (2 : Nat) == 2) = true) := by decide
  have sz : sizeOk (.seq #[v, u]) := by
    show (2 : Nat) ≤ sizeLine
    rw [sizeLine_eq]
    omega
  show wpAny (model prog w) _ (if ((1 : Int) == 0 && (-1 : Int) == 1 && (2 : Nat) == 2) = true then _ else _) _ E s
  rw [if_neg two]
  have e : ((List.range 2).filterMap (fun (k : Nat) => (#[u, v] : Array Value)[((1 : Int) + (k : Int) * (-1)).toNat]?)).toArray = #[v, u] := by
    have r2 : List.range 2 = [0, 1] := by decide
    have a0 : ((1 : Int) + ((0 : Nat) : Int) * (-1)).toNat = 1 := by decide
    have a1 : ((1 : Int) + ((1 : Nat) : Int) * (-1)).toNat = 0 := by decide
    rw [r2, List.filterMap_cons, a0, List.filterMap_cons, a1]
    rfl
  have np : Builtin.Slice.slicePlaces 1 (-1) (-1) = 2 := by decide
  show wpAny (model prog w) _ (Builtin.Tuple.tupleExact ((List.range (Builtin.Slice.slicePlaces 1 (-1) (-1))).filterMap (fun (k : Nat) => (#[u, v] : Array Value)[((1 : Int) + (k : Int) * (-1)).toNat]?)).toArray >>= _) _ E s
  rw [np, e]
  first
    | exact wpAny_bind (m := Builtin.Tuple.tupleExact _) (wpAny_newObj_type (wpAny_pure ⟨_, rfl, wpAny_pure h⟩) sz)
    | exact wpAny_bind (m := Builtin.Tuple.tupleExact _) (wpAny_newObj_type (wpAny_bind (wpAny_pure (wpAny_pure ⟨_, rfl, wpAny_pure h⟩))) sz)
    | exact wpAny_bind (wpAny_bind (m := Builtin.Tuple.tupleExact _) (wpAny_newObj_type (wpAny_pure (wpAny_pure ⟨_, rfl, wpAny_pure h⟩)) sz))
    | exact wpAny_bind (wpAny_bind (m := Builtin.Tuple.tupleExact _) (wpAny_newObj_type (wpAny_pure ⟨_, rfl, wpAny_pure h⟩) sz))
end
def tRev2 (K : PySem.W.Frag) (te : TE) : TE := fun σ H Q => te σ H fun v H1 => ∃ a x y, v = .ref a ∧ SqT K H1 a [x, y] ∧ ∀ p, H1 p = none → Q (.ref p) (upd H1 p (.tup [y, x]))
section
variable {X : Cx}
theorem pe_revLE (K : PySem.W.Frag) {e : Expr} {te : TE} {k : Nat} {p1 p2 p3 pos : Pos} (he : PE X e te) (eK : X.K = K := by rfl) : PE X (.Subscript e (.Slice none none (some (.UnaryOp .USub (.Constant (.int 1) k p1) p2)) p3) pos) (tRevL K te) := by rw [← eK]; exact pe_revL he
theorem pe_rev2E (K : PySem.W.Frag) {e : Expr} {te : TE} {k : Nat} {p1 p2 p3 pos : Pos} (he : PE X e te) (eK : X.K = K := by rfl) : PE X (.Subscript e (.Slice none none (some (.UnaryOp .USub (.Constant (.int 1) k p1) p2)) p3) pos) (tRev2 K te) := by
  rw [← eK]
  refine ⟨fun pins s σ H Q I h => Subscript_ (thn (he.run pins s σ H _ I h) fun v s1 ⟨v0, H1, I1, r1, a, x, y, e0, hx, q⟩ => ?_)⟩
  subst e0
  cases r1
  have back : PO X (some (.UnaryOp .USub (.Constant (.int 1) k p1) p2)) (tPart (tUn (rU fun i => .int (-i)) (tC (.int 1)))) := po_some (pe_un un_neg pe_int)
  refine wpAny_Slice (thn (po_none.run pins s1 σ H1 (fun o H2 => H2 = H1 ∧ o = none) I1 ⟨rfl, rfl⟩) fun vl s2 ⟨_, H2, I2, pl, e2, el⟩ => ?_)
  subst el e2
  refine thn (po_none.run pins s2 σ H2 (fun o H3 => H3 = H2 ∧ o = none) I2 ⟨rfl, rfl⟩) fun vu s3 ⟨_, H3, I3, pu, e3, eu⟩ => ?_
  subst eu e3
  refine thn (back.run pins s3 σ H3 (fun o H4 => H4 = H3 ∧ o = some (-1)) I3 ⟨1, rfl, -1, rfl, rfl, rfl⟩) fun vs s4 ⟨_, H4, I4, ps, e4, eo⟩ => ?_
  subst eo e4
  generalize es5 : ({ s4 with heap := s4.heap.push { cls := .type "slice", data := .fields #[vl, vu, vs] } } : Shared) = s5
  have I5 : Inv X pins σ H4 s5 := by rw [← es5]; exact I4.kept (t' := s4.toks) fun b ob q => Heap.get?_push_of_some _ q
  have hsl : s5.heap.IsSliceOf s4.heap.objs.size vl vu vs := by rw [← es5]; exact Heap.IsSliceOf.new _ vl vu vs
  obtain ⟨its, r, ht, hz⟩ := I5.tuple hx
  obtain ⟨u1, u2, rfl, ru1, ru2⟩ := vals2 r
  show wpAny (model X.prog X.w) X.A (subscriptTail e (.Slice none none (some (.UnaryOp .USub (.Constant (.int 1) k p1) p2)) p3) (.ref a) (.ref s4.heap.objs.size)) (EP X pins σ Q) X.xe s5
  refine tail_any (ops := [.ref a, .ref s4.heap.objs.size]) ht.typeIs (PyProof.Rows.slot_tuple_getitem.lookup) ?_ (by with_unfolding_all rfl)
  refine getItem_rev2 ht hsl pl pu ps ⟨.ref _, _, I5.laid (t' := s5.toks) (o := .tup [y, x]) (fun b ob q => Heap.get?_push_of_some _ q) (Nat.le_refl _) ?_, rfl, q _ (I5.hok.fresh (Nat.le_refl _))⟩
  exact ⟨Nat.le_of_lt (small1000 (by simp)), [u2, u1], .cons ru2 (.cons ru1 .nil), _, Heap.get?_push_size _ rfl, rfl, 0, rfl⟩
end
section
variable {σ : L2.St} {H : Hp} {Q : VK} {te : TE} {K : PySem.W.Frag}
theorem z_revL (q : te σ H fun x H1 => ∃ a xs, x = .ref a ∧ SqL K H1 a xs ∧ ∀ p, H1 p = none → Q (.ref p) (upd H1 p (.lst xs.reverse))) : tRevL K te σ H Q := q
theorem z_rev2 (q : te σ H fun v H1 => ∃ a x y, v = .ref a ∧ SqT K H1 a [x, y] ∧ ∀ p, H1 p = none → Q (.ref p) (upd H1 p (.tup [y, x]))) : tRev2 K te σ H Q := q
theorem z_minS {x y : Str} (q : Q (.str (if sLt y x = true then y else x)) H) : rMinS [.str x, .str y] H Q := ⟨x, y, rfl, q⟩
theorem z_maxS {x y : Str} (q : Q (.str (if sLt x y = true then y else x)) H) : rMaxS [.str x, .str y] H Q := ⟨x, y, rfl, q⟩
theorem z_isNn (q : Q (.bl true) H) : rIsN .non .non H Q := ⟨rfl, q⟩
theorem z_notNn (q : Q (.bl false) H) : rNotN .non .non H Q := ⟨rfl, q⟩
end
/-! ### tables together -/
def TGs (H : Hp) (Ps : List Addr) : Prop := ∀ P ∈ Ps, TabG H P
theorem TGs.same {H H' : Hp} {Ps : List Addr} (h : TGs H Ps) (e : Same H H') : TGs H' Ps := fun P hP => tg_same (h P hP) e
theorem TGs.tab {H H' : Hp} {Ps : List Addr} {P : Addr} (h : TGs H Ps) (e : Tabbed P H H') : TGs H' Ps := fun P hP => tg_tab (h P hP) e
theorem TGs.dr {H H' : Hp} {Ps : List Addr} {s : Addr} (h : TGs H Ps) (e : Dr s H H') : TGs H' Ps := fun P hP => tg_dr (h P hP) e
/-- what a check leaves: all but tables, and the tables in their form -/
structure Kc (Ps : List Addr) (H H' : Hp) : Prop where
  kp : Kp H H'
  tg : TGs H' Ps
theorem Kc.refl {Ps : List Addr} {H : Hp} (h : TGs H Ps) : Kc Ps H H := ⟨Kp.refl H, h⟩
theorem Kc.trans {Ps : List Addr} {H H1 H2 : Hp} (a : Kc Ps H H1) (b : Kc Ps H1 H2) : Kc Ps H H2 := ⟨a.kp.trans b.kp, b.tg⟩
theorem Kc.of_same {Ps : List Addr} {H H1 : Hp} (h : TGs H Ps) (e : Same H H1) : Kc Ps H H1 := ⟨Kp.of_same e, h.same e⟩
theorem Kc.of_tab {Ps : List Addr} {P : Addr} {H H1 : Hp} (h : TGs H Ps) (hP : P ∈ Ps) (e : Tabbed P H H1) : Kc Ps H H1 := ⟨Kp.of_tab e (h P hP), h.tab e⟩
/-- all over elements that leave so much -/
theorem all_kc {Ps : List Addr} {J : It} {g : TG} {te : TE} {vs : List Nat} {σw : L2.St} {H2 : Hp} {Qt Qf : Hp → Prop} (n : Nat) (pr : Nat → Bool) (h2 : TGs H2 Ps) (hgo : ∀ i H, i < n → Kc Ps H2 H → J.go i H) (hstop : ∀ H, Kc Ps H2 H → J.stop n H)
    (hs : ∀ i x H H', i < n → Kc Ps H2 H → J.yld i H x H' → ∀ (Q' : VK) (B : Hp → Prop), (∀ H3, Kc Ps H H3 → Q' (.bl (pr i)) H3) → g x σw H' fun σ2 H3 => wipe σ2 vs = σw ∧ tYes σ2 H3 fun b H4 => if b = true then te σ2 H4 Q' else B H4)
    (hT : (∀ i, i < n → pr i = true) → ∀ H, Kc Ps H2 H → Qt H) (hF : ∀ i, i < n → pr i = false → ∀ H, Kc Ps H2 H → Qf H) : ∃ W : Nat → Nat → Hp → Prop, (∃ m, W 0 m H2) ∧ AllTurns J g tYes te vs σw W Qt Qf := by
  refine ⟨fun i m H => m = n - i ∧ i ≤ n ∧ Kc Ps H2 H ∧ ∀ j, j < i → pr j = true, ⟨n, rfl, Nat.zero_le _, Kc.refl h2, fun j h => absurd h (Nat.not_lt_zero _)⟩, ?_⟩
  rintro i m H ⟨rfl, hi, hk, hp⟩
  by_cases h : i < n
  · refine .inr ⟨hgo i H h hk, fun H' => Kc Ps H2 H' ∧ pr i = true, fun H' hN => ⟨n - (i + 1), by omega, rfl, h, hN.1, fun j hj => ?_⟩, fun x H' hy => hs i x H H' h hk hy _ _ fun H3 k3 => ⟨pr i, rfl, ?_⟩⟩
    · rcases (show j < i ∨ j = i by omega) with z | z
      · exact hp j z
      · rw [z]; exact hN.2
    · cases hb : pr i with
      | true => exact ⟨hk.trans k3, rfl⟩
      | false => exact hF i h hb H3 (hk.trans k3)
  · have e : i = n := by omega
    subst e
    exact .inl ⟨hstop H hk, hT hp H hk⟩
/-! ### the turns of a set's comprehension over a list -/
theorem sc_list {SO : Addr → HO} {r : V → List V → Hp → VK → Prop} {K : PySem.W.Frag} {a : Addr} {xs : List V} {g : TG} {tt : TT} {te : TE} {vs : List Nat} {σ : L2.St} {H1 : Hp} {D : Addr} {Qd : Hp → Prop} (Pv : Nat → Hp → Prop) (h0 : Pv 0 (upd H1 D (SO D))) (hl : ∀ i H, i ≤ xs.length → Pv i H → SqL K H a xs)
    (hs : ∀ i x H, xs[i]? = some x → Pv i H → g x (wipe σ vs) H fun σ2 H2 => wipe σ2 vs = wipe σ vs ∧ tt σ2 H2 fun b H3 => if b = true then te σ2 H3 fun y H4 => r (.ref D) [y] H4 (fun _ H5 => Pv (i + 1) H5) else Pv (i + 1) H3) (hd : ∀ H, Pv xs.length H → Qd H) :
    ∃ W : Nat → Nat → Hp → Prop, (∃ m, W 0 m (upd H1 D (SO D))) ∧ ∀ i m H, W i m H → ((Itl K a).stop i H ∧ Qd H) ∨ ((Itl K a).go i H ∧ ∃ Nx : Hp → Prop, (∀ H', Nx H' → ∃ m', m' < m ∧ W (i + 1) m' H') ∧ ∀ x H', (Itl K a).yld i H x H' → g x (wipe σ vs) H' fun σ2 H2 => wipe σ2 vs = wipe σ vs ∧ tt σ2 H2 fun b H3 =>
      if b = true then te σ2 H3 fun y H4 => r (.ref D) [y] H4 (fun _ H5 => Nx H5) else Nx H3) := by
  refine ⟨fun i m H => i ≤ xs.length ∧ m = xs.length - i ∧ Pv i H, ⟨xs.length, Nat.zero_le _, by simp, h0⟩, ?_⟩
  rintro i m H ⟨hi, rfl, p⟩
  have q := hl i H hi p
  by_cases lt : i < xs.length
  · refine .inr ⟨⟨xs, xs[i], q, by simp [lt]⟩, Pv (i + 1), fun H' p' => ⟨xs.length - (i + 1), by omega, lt, rfl, p'⟩, fun x H' y => ?_⟩
    obtain ⟨rfl, y⟩ := y
    exact hs i x _ (y xs q) p
  · have e : i = xs.length := by omega
    subst e
    exact .inl ⟨⟨xs, q, Nat.le_refl _⟩, hd H p⟩
section
variable {σ : L2.St} {H : Hp} {Q : VK}
theorem z_scG {SO : Addr → HO} {r : V → List V → Hp → VK → Prop} {wi : TI} {g : TG} {tt : TT} {te : TE} {vs : List Nat} (q : wi σ H fun J H1 => ∀ D, H1 D = none → ∃ W : Nat → Nat → Hp → Prop, (∃ m, W 0 m (upd H1 D (SO D))) ∧ ∀ i m H, W i m H →
  (J.stop i H ∧ Q (.ref D) H) ∨ (J.go i H ∧ ∃ Nx : Hp → Prop, (∀ H', Nx H' → ∃ m', m' < m ∧ W (i + 1) m' H') ∧ ∀ x H', J.yld i H x H' → g x (wipe σ vs) H' fun σ2 H2 => wipe σ2 vs = wipe σ vs ∧ tt σ2 H2 fun b H3 =>
    if b = true then te σ2 H3 fun y H4 => r (.ref D) [y] H4 (fun _ H5 => Nx H5) else Nx H3)) : tScG SO r wi g tt te vs σ H Q := q
theorem z_addK {P : Program} {w : World} {D : Addr} {k : Key} {S : Key → Bool} {n : Nat} (hD : H D = some (SetK P w D S n)) (hn : n < 100) (q : ∀ H' S' n', (∀ b o, b ≠ D → H b = some o → H' b = some o) → H' D = some (SetK P w D S' n') → (∀ j, S' j = (S j || decide (j = k))) → n' = (if S k = true then n else n + 1) → Q .non H') : rSAddK P w (.ref D) [kV k] H Q :=
  ⟨D, k, S, n, rfl, rfl, hD, Nat.lt_of_le_of_lt (show n + 1 ≤ 100 by omega) (by decide), q _ _ _ (fun b o nb hb => by rw [upd_ne nb]; exact hb) upd_same (fun _ => rfl) rfl⟩
theorem z_addP {K : PySem.W.Frag} {P : Program} {w : World} {D p : Addr} {k : TKey} {L : List (Addr × TKey)} (hD : H D = some (SetP P w D L)) (hp : SqT K H p (k.map kV)) (hL : ∀ m ∈ L, SqT K H m.1 (m.2.map kV)) (hn : L.length < 60)
    (q : ∀ H' L2, (∀ b o, b ≠ D → H b = some o → H' b = some o) → H' D = some (SetP P w D L2) → (k ∈ L.map (fun m => m.2) → L2 = L) → (k ∉ L.map (fun m => m.2) → L2 = (p, k) :: L) → Q .non H') : rSAddP K P w (.ref D) [.ref p] H Q := by
  rcases Classical.em (k ∈ L.map (fun m => m.2)) with h | h
  · exact ⟨D, p, k, L, L, rfl, rfl, hD, hp, hL, by omega, fun _ => rfl, fun z => absurd h z, q _ L (fun b o nb hb => by rw [upd_ne nb]; exact hb) upd_same (fun _ => rfl) fun z => absurd h z⟩
  · exact ⟨D, p, k, L, (p, k) :: L, rfl, rfl, hD, hp, hL, by omega, fun z => absurd z h, fun _ => rfl, q _ _ (fun b o nb hb => by rw [upd_ne nb]; exact hb) upd_same (fun z => absurd z h) fun _ => rfl⟩
end
end Zk
set_option Elab.async false
set_option linter.all false
set_option maxRecDepth 100000
set_option maxHeartbeats 3200000
/-! Sets of texts that are walked: set(list of texts), sorted of such a set. -/
namespace Zk
open PySem PySem.Spec PyProof.Rows L2
/-- an entry of a text -/
def TxE (w : World) (e : Int × Value) : Prop := ∃ k t, e.2 = Value.str k t ∧ e.1 = hashStr w k
def txK (e : Int × Value) : Str := match e.2 with | .str k _ => k | _ => Str.empty
/-- the set at a of the texts zs, each once; its table can be walked -/
def TxS (w : World) (h : Heap) (a : Addr) (zs : List Str) : Prop :=
  ∃ o es ep t, h.get? a = some o ∧ o.ExactSet ∧ o.data = .set es ep t ∧ (∀ e ∈ es.toList, TxE w e) ∧ (es.toList.map txK).Perm zs ∧ zs.Nodup ∧ es.size < scanBound ∧ t.fits es.size = true ∧ Ris t.place.toList ∧ (w.params.followText "set-order" = true ∨ t.led = true)
section
variable {P : Program} {w : World} {A : Around} {E : Value → Shared → Prop} {s : Shared} {a : Addr} {zs : List Str}
theorem TxS.at {h h' : Heap} (R : TxS w h a zs) (k : ∀ o, h.get? a = some o → h'.get? a = some o) : TxS w h' a zs := by
  obtain ⟨o, es, ep, t, ho, r⟩ := R
  exact ⟨o, es, ep, t, k o ho, r⟩
theorem tx_elems {l : List (Int × Value)} (g : ∀ e ∈ l, TxE w e) : ElemsOf (PySem.strKind P w) l := fun e he => by
  obtain ⟨k, t, h1, h2⟩ := g e he
  exact ⟨⟨k, by rw [h1]; exact strKind_is _ _ _ _, h2⟩, by rw [h1] <;> rfl⟩
theorem tx_is {e : Int × Value} (g : TxE w e) (k : Str) : (PySem.strKind P w).is k e.2 = true ↔ txK e = k := by
  obtain ⟨k0, t, h1, _⟩ := g
  unfold txK
  rw [h1]
  constructor
  · intro q
    exact (PySem.strKind P w).inj _ _ _ (strKind_is _ _ _ _) q
  · rintro rfl
    exact strKind_is _ _ _ _
theorem tx_put {h : Heap} {o : Obj} {es es' : Array (Int × Value)} {ep : Nat} {t t' : SetTable} (ho : h.get? a = some o) (hd : o.data = .set es ep t) : (h.update a (Obj.putSet es' t')).get? a = some { o with data := .set es' (ep + 1) t' } := store_at ho hd
/-- behind a new entry: the table laid larger where it is full -/
theorem tx_tail {g : Bool → Sem Unit} (hg : ∀ (b : Bool) (s₁ : Shared) (Q' : Unit → Shared → Prop), Q' () s₁ → wpAny (model P w) A (g b) Q' E s₁) {o : Obj} {es es1 : Array (Int × Value)} {ep : Nat} {t t2 : SetTable} (ho : s.heap.get? a = some o) (hex : o.ExactSet) (hd : o.data = .set es ep t)
    (g1 : ∀ e ∈ es1.toList, TxE w e) (p1 : (es1.toList.map txK).Perm zs) (nd : zs.Nodup) (b1 : es1.size < scanBound) (f2 : t2.fits es1.size = true) (r2 : Ris t2.place.toList) (l2 : w.params.followText "set-order" = true ∨ t2.led = true) {dm : Bool} {R : Option Bool → Shared → Prop}
    (hR : ∀ h', Heap.SameBut a s.heap h' → TxS w h' a zs → R (some true) { s with heap := h' }) :
    wpAny (model P w) A (do
        storeSet a es1 t2
        if (!dm && t2.tooFull) = true then do
            g (relayAll t2 es1 (SetTable.grown es1.size)).2.2
            storeSet a (relayAll t2 es1 (SetTable.grown es1.size)).1 (relayAll t2 es1 (SetTable.grown es1.size)).2.1
            pure (some true)
          else pure (some true)) R E s := by
  refine wpAny_bind (wpAny_storeSet_of ho hd ?_ (fits_of_scanBound b1))
  have o1 := tx_put (es' := es1) (t' := t2) ho hd
  have sb := Heap.SameBut.update s.heap a (Obj.putSet es1 t2)
  split
  · have pm := relayAll_perm t2 es1 (SetTable.grown es1.size)
    have f3 := relayAll_fits t2 es1 (SetTable.grown es1.size)
    have r3 := relayAll_ris t2 es1 (SetTable.grown es1.size)
    have l3 := relayAll_led t2 es1 (SetTable.grown es1.size)
    generalize relayAll t2 es1 (SetTable.grown es1.size) = Z at pm f3 r3 l3 ⊢
    obtain ⟨es2, t3, gv⟩ := Z
    dsimp only at pm f3 r3 l3 ⊢
    have sz : es2.size = es1.size := by rw [← Array.length_toList, pm.length_eq, Array.length_toList]
    refine wpAny_bind (hg _ _ _ (wpAny_bind (wpAny_storeSet_of o1 rfl ?_ (fits_of_scanBound (by rw [sz]; exact b1)))))
    have o2 := tx_put (es' := es2) (t' := t3) o1 rfl
    exact wpAny_pure (hR _ (sb.trans (Heap.SameBut.update _ a _)) ⟨_, es2, _, t3, o2, hex, rfl, fun e he => g1 e (pm.mem_iff.mp he), (pm.map txK).trans p1, nd, by rw [sz]; exact b1, f3, r3, l2.imp id fun z => by rw [l3]; exact z⟩)
  · exact wpAny_pure (hR _ sb ⟨_, es1, _, t2, o1, hex, rfl, g1, p1, nd, b1, f2, r2, l2⟩)
theorem tx_add {k : Str} {u : Tok} {Q : Bool → Shared → Prop} (R : TxS w s.heap a zs) (room : zs.length + 1 < scanBound)
    (hQ : ∀ b h' zs', Heap.SameBut a s.heap h' → TxS w h' a zs' → (k ∈ zs → zs' = zs) → (k ∉ zs → zs' = k :: zs) → Q b { s with heap := h' }) : wpAny (model P w) A (setAddHashed a (.str k u) (hashStr w k)) Q E s := by
  obtain ⟨o, es, ep, t, ho, hex, hd, g, pz, nd, hb, hf, hr, hl⟩ := R
  have ik : (PySem.strKind P w).is k (.str k u) = true := strKind_is _ _ _ _
  have el : ElemsOf (PySem.strKind P w) es.toList := tx_elems g
  have len : es.size = zs.length := by rw [← pz.length_eq, List.length_map, Array.length_toList]
  have memz : ∀ i, i ∈ zs ↔ ∃ e ∈ es.toList, (PySem.strKind P w).is i e.2 = true := fun i => by
    rw [← pz.mem_iff, List.mem_map]
    exact ⟨fun ⟨e, he, q⟩ => ⟨e, he, (tx_is (g e he) i).2 q⟩, fun ⟨e, he, q⟩ => ⟨e, he, (tx_is (g e he) i).1 q⟩⟩
  unfold setAddHashed setAddHashedIn
  refine wpAny_holding (wpAny_bind (wpAny_setState_of ho hd hf ?_)); dsimp only
  rw [byScan_of (x := .str k u) rfl hb el]
  simp only [↓reduceIte]
  unfold setAddByScan
  refine wpAny_bind (wpAny_bind (wpAny_rule (wpAny_bind (wpAny_setScan_of (knd := PySem.strKind P w) (k := k) ik ho hd hf el ?_))))
  cases fi : List.findIdx? (fun e => (PySem.strKind P w).is k e.2) es.toList with
  | some j =>
    obtain ⟨hj, pj, _⟩ := List.findIdx?_eq_some_iff_getElem.mp fi
    have yes : k ∈ zs := (memz k).2 ⟨es.toList[j], List.getElem_mem hj, pj⟩
    exact wpAny_pure (wpAny_pure (hQ _ s.heap zs (Heap.SameBut.refl a s.heap) ⟨o, es, ep, t, ho, hex, hd, g, pz, nd, hb, hf, hr, hl⟩ (fun _ => rfl) fun z => absurd yes z))
  | none =>
    have no : k ∉ zs := fun z => by
      obtain ⟨e, he, q⟩ := (memz k).1 z
      have c := List.findIdx?_eq_none_iff.mp fi e he
      rw [q] at c
      cases c
    dsimp only
    have gw : ∀ (b : Bool) {s₁ : Shared} {Q' : Unit → Shared → Prop}, Q' () s₁ → wpAny (model P w) A (match b with | true => rule "set.scan.the-table-gave-way" | false => pure ()) Q' E s₁ := fun b s₁ Q' q => by cases b <;> first | exact wpAny_pure q | exact wpAny_rule q
    have pm := layNew_perm t es (hashStr w k) (.str k u)
    have f1 := layNew_fits t es (hashStr w k) (.str k u)
    have r1 := layNew_ris t es (hashStr w k) (.str k u) hr
    have l1 := layNew_led t es (hashStr w k) (.str k u)
    generalize layNew t es (hashStr w k) (.str k u) = Z at pm f1 r1 l1 ⊢
    obtain ⟨es1, t1, dm, gv⟩ := Z
    dsimp only at pm f1 r1 l1 ⊢
    rw [Array.toList_push] at pm
    have pc : es1.toList.Perm ((hashStr w k, Value.str k u) :: es.toList) := pm.trans (List.perm_append_singleton _ _)
    have g1 : ∀ e ∈ es1.toList, TxE w e := fun e he => by
      rcases List.mem_cons.mp (pc.mem_iff.mp he) with z | z
      · rw [z]; exact ⟨k, u, rfl, rfl⟩
      · exact g e z
    have p1 : (es1.toList.map txK).Perm (k :: zs) := (pc.map txK).trans (pz.cons k)
    have nd1 : (k :: zs).Nodup := List.nodup_cons.mpr ⟨no, nd⟩
    have b1 : es1.size < scanBound := by rw [← Array.length_toList, pc.length_eq, List.length_cons, Array.length_toList, len]; exact room
    have led1 : w.params.followText "set-order" = true ∨ t1.led = true := hl.imp id fun z => by rw [l1]; exact z
    have fin : ∀ h', Heap.SameBut a s.heap h' → TxS w h' a (k :: zs) → Q true { s with heap := h' } := fun h' sb r => hQ true h' _ sb r (fun z => absurd z no) fun _ => rfl
    refine wpAny_bind (gw _ ?_)
    split
    · refine wpAny_bind ?_
      rw [hashByValue_scannable 8 (x := .str k u) rfl]
      refine wpAny_pure ?_
      refine tx_tail ?_ ho hex hd g1 p1 nd1 b1 ?_ ?_ ?_ ?_
      · intro b s₁ Q' q; cases b <;> first | exact wpAny_pure q | exact wpAny_rule q
      · first | (split <;> first | exact f1 | exact SetTable.fits_plain_off f1) | exact f1
      · first | (split <;> exact r1) | exact r1
      · first | (split <;> exact led1) | exact led1
      · intro h' sb r; dsimp only; exact wpAny_pure (fin h' sb r)
    · refine wpAny_bind (wpAny_pure ?_)
      simp only [↓reduceIte]
      refine tx_tail ?_ ho hex hd g1 p1 nd1 b1 f1 r1 led1 ?_
      · intro b s₁ Q' q; cases b <;> first | exact wpAny_pure q | exact wpAny_rule q
      · intro h' sb r; dsimp only; exact wpAny_pure (fin h' sb r)
end
/-! ### set(list of texts) -/
section
variable {prog : Program} {w : World} {A : Around} {R : Result → Shared → Prop} {I : Addr} {fp wr : List Addr} {G : Array GenState → Array GenState → Prop} {n : Nat} {P : Nat → Value → Prop} {St : Nat → Shared → Prop}
theorem tx_loop (W : WalksS prog w A.in1 I fp wr G n P St) (S : Addr) (hSf : S ∉ fp) (xs : List Str) (hsz : xs.length = n) (hn : n < 1000) (hval : ∀ i v, P i v → ∃ t, v = .str (xs.getD i Str.empty) t) :
    ∀ (k i : Nat) (s : Shared) (zi : List Str), n - i = k → i ≤ n → St i s → TxS w s.heap S zi → (∀ z, z ∈ zi ↔ z ∈ xs.take i) → zi.length ≤ i →
      (∀ s' zn, Moved (S :: wr) G s s' → TxS w s'.heap S zn → (∀ z, z ∈ zn ↔ z ∈ xs) → zn.length ≤ n → R (.ok (.ret .none)) s') → codeAny (model prog w) A (.builtin "set.update.loop" ⟨[.ref S, .ref I], []⟩) R s := by
  have nSw : S ∉ wr := fun h => hSf (W.sub _ h)
  have sub : ∀ b ∈ wr, b ∈ S :: wr := fun b hb => List.mem_cons_of_mem _ hb
  intro k
  induction k with
  | zero =>
    intro i s zi hk hi st hz mz lz hR
    have e : i = n := by omega
    subst e
    refine codeAny_builtin PyProof.Rows.F.entry_set_update_loop ?_
    rw [Around.under_plainId PyProof.Rows.F.plain_set_update_loop _]
    show wpAny (model prog w) A.in1 (pyNext (.ref I) >>= _) _ _ s
    refine wpAny_bind (W.done s _ _ st fun s' hm => wpAny_pure (hR s' zi (hm.mono sub) (hz.at fun o => hm.heap S o nSw) (fun z => ?_) lz))
    rw [mz, List.take_of_length_le (by omega)]
  | succ k ih =>
    intro i s zi hk hi st hz mz lz hR
    have lt : i < n := by omega
    refine codeAny_builtin PyProof.Rows.F.entry_set_update_loop ?_
    rw [Around.under_plainId PyProof.Rows.F.plain_set_update_loop _]
    show wpAny (model prog w) A.in1 (pyNext (.ref I) >>= _) _ _ s
    refine wpAny_bind (W.item i s _ _ lt st fun v s' hP st' hm => ?_)
    obtain ⟨t, rfl⟩ := hval i v hP
    obtain ⟨x, hx⟩ : ∃ x, xs[i]? = some x := ⟨_, List.getElem?_eq_getElem (by omega)⟩
    have ex : xs.getD i Str.empty = x := by rw [List.getD_eq_getElem?_getD, hx] <;> rfl
    rw [ex]
    show wpAny (model prog w) A.in1 (holding [Value.str x t] (setAdd S (.str x t)) >>= _) _ _ s'
    unfold setAdd
    refine wpAny_bind (wpAny_holding (wpAny_holding (wpAny_bind ((PySem.strKind prog w).pyHash (k := x) (strKind_is _ _ _ _) ?_))))
    refine tx_add (s := { s' with toks := s'.toks + 1 }) (hz.at fun o => hm.heap S o nSw) (Nat.lt_of_le_of_lt (show zi.length + 1 ≤ 1000 by omega) (by decide)) fun b h' zs' sb hz' y no => ?_
    have tk : ∀ z, z ∈ xs.take (i + 1) ↔ z ∈ xs.take i ∨ z = x := fun z => by rw [List.take_add_one, hx]; simp
    have mz' : ∀ z, z ∈ zs' ↔ z ∈ xs.take (i + 1) := fun z => by
      rw [tk, ← mz]
      rcases Classical.em (x ∈ zi) with h | h
      · rw [y h]
        exact ⟨.inl, fun q => q.elim id fun e => e ▸ h⟩
      · rw [no h, List.mem_cons]
        exact Or.comm
    have lz' : zs'.length ≤ i + 1 := by
      rcases Classical.em (x ∈ zi) with h | h
      · rw [y h]; omega
      · rw [no h, List.length_cons]; omega
    refine wpAny_pure ⟨plainId_quiet PyProof.Rows.F.plain_set_update_loop _, ih (i + 1) _ zs' (by omega) lt (W.frame _ s' _ _ st' (Nat.le_succ _) fun b hb o e => ?_) hz' mz' lz' fun s'' zn hm'' hz'' m'' l'' => hR s'' zn (Moved.trans W.gtrans ((hm.mono sub).then_heap (Nat.le_succ _) fun b o hb e => ?_) hm'') hz'' m'' l''⟩
    · rw [sb.2 b (fun h : b = S => hSf (by rw [← h]; exact hb))]; exact e
    · rw [sb.2 b (fun h : b = S => hb (by rw [h]; exact List.mem_cons_self))]; exact e
end
section
variable {prog : Program} {w : World} {A : Around} {E : Value → Shared → Prop} {s : Shared}
abbrev nso (led : Bool) : Obj := { cls := .type "set", dict := none, data := .set #[] 0 (.fresh 0 0 led) }
theorem tx_fresh {h : Heap} {a : Addr} (ho : h.get? a = some (newSetObj w)) : TxS w h a [] :=
  ⟨_, #[], 0, _, ho, ⟨rfl, rfl, rfl⟩, rfl, (fun e he => by simp at he), .nil, List.nodup_nil, (by decide), (by rfl), List.Pairwise.nil, by
    show _ ∨ (!w.params.followText "set-order") = true
    cases w.params.followText "set-order"
    · exact .inr rfl
    · exact .inl rfl⟩
/-- set(xs) of a list of texts -/
theorem call_setTx {l : Addr} {items : Array Value} {xs : List Str} {Q : Value → Shared → Prop} (hh : A.handled = none) (hl : s.heap.IsList l items) (hi : PyProof.Rows.StrsAre items.toList xs) (hn : xs.length < 1000)
    (h : ∀ (h' : Heap) (tk : Nat) (zs : List Str), TxS w h' s.heap.objs.size zs → (∀ z, z ∈ zs ↔ z ∈ xs) → zs.length ≤ xs.length → (∀ b o, s.heap.get? b = some o → h'.get? b = some o) → Q (.ref s.heap.objs.size) { s with heap := h', toks := tk }) :
    wpAny (model prog w) A (call (.type "set") [.ref l]) Q E s := by
  have size : xs.length = items.size := by rw [← StrsAre.len_eq hi, Array.length_toList]
  obtain ⟨cc, tl, mro⟩ := PySem.F.called_set.mro
  have made := PySem.F.called_set.made
  have sub0 := PySem.F.called_set.sub
  refine wpAny_call (codeAny_of_tree ?_)
  show wpAny (model prog w) _ (callAny (.type "set") _) _ E _
  refine wpAny_pure ⟨Code.quiet_builtin _ (by decide +kernel), codeAny_builtin PySem.F.entry_type_call ?_⟩
  rw [Around.under_plain (weight_type_call_type "set" [.ref l] []) rfl]
  have nt := PySem.F.called_set.notType
  have cre := PySem.F.called_set.canCreate
  have tc := PySem.F.typeCall_set_1 (.ref l)
  repeat (any_goals (first | assumption | wp_step))
  refine codeAny_mono (code_set_led1 (.ref l) (E := E) (Q₁ := fun obj s₁ => obj = .ref s.heap.objs.size ∧ s₁ = { s with heap := s.heap.push (newSetObj w) }) ⟨rfl, rfl⟩) fun r s₁ hr => ?_
  cases r with
  | error e => exact hr
  | ok fl =>
    cases fl with
    | ret obj =>
      obtain ⟨rfl, rfl⟩ := hr
      have hS : (s.heap.push (newSetObj w)).get? s.heap.objs.size = some (newSetObj w) := Heap.get?_push_size _ rfl
      have hT : Shared.TypeIs { s with heap := s.heap.push (newSetObj w) } (.ref s.heap.objs.size) "set" := ⟨_, hS, rfl⟩
      have li := PySem.F.called_set.init.lookup
      have bi := PySem.F.called_set.init.bind (.ref s.heap.objs.size)
      repeat (any_goals (first | assumption | wp_step))
      refine codeAny_mono (codeAny_call_builtin (R := wants (fun r s₂ => r = .none ∧ ∃ h' tk zs, s₂ = { s with heap := h', toks := tk } ∧ TxS w h' s.heap.objs.size zs ∧ (∀ z, z ∈ zs ↔ z ∈ xs) ∧ zs.length ≤ xs.length ∧ (∀ b o, s.heap.get? b = some o → h'.get? b = some o)) E) PySem.F.called_set.init.plain PySem.F.entry_set_init (check_set_init_1 hT ?_)) fun r₂ s₂ hr₂ => ?_
      · obtain ⟨ol, hol, hcl, nl, hdl⟩ := hl
        obtain ⟨ocls, odict, odata, oslots⟩ := ol
        simp only at hcl hdl
        subst hcl; subst hdl
        have hol' : (s.heap.push (newSetObj w)).get? l = some { cls := .type "list", dict := odict, data := .seq items nl, slots := oslots } := Heap.get?_push_of_some _ hol
        have q1 := PySem.F.sub_list_set
        have q2 := PySem.F.sub_list_frozenset
        have q3 : (Value.type "list" == Value.type "dict") = false := by decide
        have l1 : (s.heap.push (newSetObj w)).IsList l items := ⟨_, hol', rfl, nl, rfl⟩
        have lS : l < s.heap.objs.size := Heap.lt_size hol
        have sz1 : (s.heap.push (newSetObj w)).objs.size = s.heap.objs.size + 1 := Heap.size_push ..
        unfold Builtin.«set.__init__» noKeywords Builtin.Frozenset.updateFrom
        generalize hPI : pyIter = PI
        wp_walk
        subst hPI
        refine wpAny_pyIter_list l1 (wpAny_bind (wpAny_runValue ?_))
        have h3 : A.in1.in1.in1.handled = none := by simp [hh]
        have ne1 : l ≠ (s.heap.push (newSetObj w)).objs.size := by rw [sz1]; exact Nat.ne_of_lt (Nat.lt_succ_of_lt lS)
        have nf : s.heap.objs.size ∉ [(s.heap.push (newSetObj w)).objs.size, l] := fun z => by
          rcases List.mem_cons.mp z with z | z
          · rw [sz1] at z
            exact Nat.ne_of_lt (Nat.lt_succ_self _) z
          · exact Nat.ne_of_gt lS (List.mem_singleton.mp z)
        have hS2 : ((s.heap.push (newSetObj w)).push { cls := .type "list_iterator", data := .fields #[.ref l, .int 0 0] }).get? s.heap.objs.size = some (newSetObj w) := Heap.get?_push_of_some _ hS
        refine tx_loop ((Walks.list h3 _ l ne1 items).toS) s.heap.objs.size nf xs size (by omega) (fun i v hv => SS.strs_at hi i v (by rw [Array.getElem?_toList]; exact hv)) (items.size - 0) 0 _ [] (by omega) (Nat.zero_le _) ⟨⟨_, Heap.get?_push_size _ rfl, rfl, rfl⟩, (l1.push _)⟩ (tx_fresh hS2) (fun z => by simp) (Nat.zero_le _) ?_
        intro s' zn hm hz mz lz
        obtain ⟨h', g', d', tk', os'⟩ := s'
        have eg : g' = s.gens := hm.gens
        have ed : d' = s.drawn := hm.drawn
        have eo : os' = s.os := hm.os
        subst eg; subst ed; subst eo
        refine wpAny_pure ?_
        show wpAny (model prog w) _ (ret Value.none) _ _ _
        refine wpAny_pure ⟨rfl, h', tk', zn, rfl, hz, mz, by omega, fun b o e => ?_⟩
        have lb := Heap.lt_size e
        refine hm.heap b o (fun z => ?_) (Heap.get?_push_of_some _ (Heap.get?_push_of_some _ e))
        rcases List.mem_cons.mp z with z | z
        · exact Nat.ne_of_lt lb z
        · rw [List.mem_singleton.mp z, sz1] at lb
          exact Nat.lt_irrefl _ (Nat.lt_of_succ_lt lb)
      · cases r₂ with
        | error e => exact hr₂
        | ok fl₂ =>
          cases fl₂ with
          | ret r =>
            obtain ⟨rfl, h', tk, zs, rfl, hz, mz, lz, hk'⟩ := hr₂
            repeat (any_goals (first | assumption | wp_step))
            exact h _ _ zs hz mz lz hk'
          | _ => exact hr₂.elim
    | _ => exact hr.elim
/-- sorted of a set of texts -/
theorem strs_of : ∀ (vs : List Value), (∀ v ∈ vs, ∃ k t, v = Value.str k t) → PyProof.Rows.StrsAre vs (vs.map fun v => txK (0, v))
  | [], _ => .nil
  | v :: vs, h => by
    obtain ⟨k, t, rfl⟩ := h v (by simp)
    exact .cons k t (strs_of vs fun u hu => h u (List.mem_cons_of_mem _ hu))
theorem sorted_tx {a : Addr} {zs : List Str} {Q : Value → Shared → Prop} (R : TxS w s.heap a zs) (hh : A.handled = none) (h64 : zs.length < 64)
    (hQ : ∀ s' p (out : Array Value) (c : Nat) (ys : List Str), (∀ b o, s.heap.get? b = some o → s'.heap.get? b = some o) → s'.gens = s.gens → s'.os = s.os → s.heap.objs.size ≤ p →
      s'.heap.get? p = some (seqObj "list" out c) → PyProof.Rows.StrsAre out.toList ys → ys.Perm zs → sortedS ys = true → Q (.ref p) s') : wpAny (model prog w) A (call (.builtin "sorted") [.ref a]) Q E s := by
  obtain ⟨o, es, ep, t, ho, hex, hd, g, pz, nd, hb, hf, hr, hl⟩ := R
  refine Calls.call_function_entry kind_sorted plain_sorted entry_sorted (args_sorted1 _) ?_
  unfold Builtin.«sorted»
  refine wpAny_bind (m := checkCount "sorted" 1 1 _) (wpAny_pure (wpAny_bind (collect_set (A := A.in1) hh ⟨o, ho, hex.1, hd⟩ hf hb hr hl fun s1 vs k1 hz g1 o1 pm => ?_)))
  have hS : PyProof.Rows.StrsAre vs (vs.map fun v => txK (0, v)) := strs_of vs fun v hv => by
    obtain ⟨e, he, q⟩ := List.mem_map.mp (pm.mem_iff.mp hv)
    obtain ⟨k, tk, h1, _⟩ := g e he
    exact ⟨k, tk, by rw [← q]; exact h1⟩
  have pk : (vs.map fun v => txK (0, v)).Perm zs := by
    have q := pm.map fun v => txK (0, v)
    rw [List.map_map] at q
    exact q.trans pz
  have len : vs.length = zs.length := by rw [← pk.length_eq, List.length_map]
  refine wpAny_bind (wpAny_newList ?_ (by rw [len, sizeLine_eq]; omega))
  have hoL : (s1.heap.push (seqObj "list" vs.toArray 0)).get? s1.heap.objs.size = some (seqObj "list" vs.toArray 0) := Heap.get?_push_size _ rfl
  refine wpAny_bind (wpAny_holding (wpAny_call_entry slot_list_sort ⟨_, hoL, rfl⟩ entry_list_sort (list_sort_treeK PyProof.Rows.strKind_oneLt hoL hS.keysOf (fun v₁ v₂ rest e => PyProof.Rows.keyKind_strs (by rw [← e]; exact hS)) (by rw [len]; exact h64) fun st' hp hs => ⟨_, rfl, ?_⟩) (args_list_sort _)))
  obtain ⟨ys, a1, a2, a3⟩ := PyProof.Rows.sorted_out_str hS hp hs
  obtain ⟨c, hc⟩ := sortedHeap_at (vs := vs) (out := (arrOf st').map (·.2)) hoL
  refine wpAny_pure ⟨_, rfl, hQ _ s1.heap.objs.size _ c ys (fun b u e => ?_) g1 o1 hz hc a1 (a2.trans pk) a3⟩
  have q := k1 b u e
  have lt := Heap.lt_size q
  show (sortedHeap (s1.heap.push (seqObj "list" vs.toArray 0)) s1.heap.objs.size vs _).get? b = some u
  rw [sortedHeap_old (Nat.ne_of_lt lt) (by rw [size_push']; exact Nat.lt_succ_of_lt lt)]
  exact Heap.get?_push_of_some _ q
end
/-! ### as tracked things -/
def SetTx (w : World) (a : Addr) (zs : List Str) : HO := .ext fun h => TxS w h a zs
theorem setTx_new {P : Program} {w : World} {H : Hp} {h : Heap} {a : Addr} {zs : List Str} (R : TxS w h a zs) : ObjOk P w H h a (SetTx w a zs) := by
  refine ⟨R, ?_, fun h1 h2 p k => p.at k⟩
  obtain ⟨o, _, _, _, ho, _⟩ := R
  exact ⟨o, ho⟩
def rSetTx (K : PySem.W.Frag) (w : World) : List V → Hp → VK → Prop := fun vs H Q => ∃ (l : Addr) (xs : List Str), vs = [.ref l] ∧ SqL K H l (xs.map V.str) ∧ xs.length < 1000 ∧ ∀ p zs, H p = none → (∀ z, z ∈ zs ↔ z ∈ xs) → zs.Nodup → zs.length ≤ xs.length → Q (.ref p) (upd H p (SetTx w p zs))
def rSortTx (w : World) : List V → Hp → VK → Prop := fun vs H Q => ∃ (a : Addr) (zs : List Str), vs = [.ref a] ∧ H a = some (SetTx w a zs) ∧ zs.length < 64 ∧ ∀ p ys, H p = none → ys.Perm zs → sortedS ys = true → Q (.ref p) (upd H p (.lst (ys.map V.str)))
section
variable {X : Cx}
theorem cr_setTx (hc : X.calm = true) : CallR X (.type "set") (rSetTx X.K X.w) := by
  intro pins s σ H xs us Q I r h
  obtain ⟨l, xs, rfl, hl, hn, q⟩ := h
  rw [Vals.ref1 r]
  obtain ⟨its, rv, pl, hz⟩ := I.list hl
  have nn : H s.heap.objs.size = none := I.hok.fresh (Nat.le_refl _)
  refine call_setTx (I.ok.hd hc) pl.isList (by simpa using strsAre_of rv) hn fun h' tk zs R m le k => ?_
  have nd : zs.Nodup := by obtain ⟨_, _, _, _, _, _, _, _, _, nd, _⟩ := R; exact nd
  exact ⟨.ref s.heap.objs.size, upd H s.heap.objs.size (SetTx X.w s.heap.objs.size zs), I.laid (t' := tk) k (Nat.le_refl _) (setTx_new R), rfl, q _ zs nn m nd le⟩
theorem cr_sortTx (hc : X.calm = true) : CallR X (.builtin "sorted") (rSortTx X.w) := by
  intro pins s σ H vs us Q I r h
  obtain ⟨a, zs, rfl, ha, h64, q⟩ := h
  rw [Vals.ref1 r]
  refine sorted_tx (I.hok a _ ha).1 (I.ok.hd hc) h64 fun s' p out c ys k g o hp hg hi pm hs => ?_
  have hlen : (ys.map V.str).length ≤ sizeLine := by rw [List.length_map, pm.length_eq, sizeLine_eq]; omega
  have hn : H p = none := I.hok.fresh hp
  have J : Inv X pins σ (upd H p (.lst (ys.map V.str))) { s with heap := s'.heap, gens := s'.gens, drawn := s'.drawn, toks := s'.toks } :=
    I.call (ch := []) (Un.laid k hp hn) (I.hok.laid k hp ⟨hlen, out.toList, c, vals_of_strs hi, hg⟩) (by rw [g]; exact I.bare) (fun _ z => nomatch z)
  have e : s' = { s with heap := s'.heap, gens := s'.gens, drawn := s'.drawn, toks := s'.toks } := by cases s'; cases s; cases o; rfl
  rw [e]
  exact ⟨.ref p, _, J, rfl, q p ys hn pm hs⟩
end
end Zk
set_option Elab.async false
set_option linter.all false
set_option maxRecDepth 100000
set_option maxHeartbeats 2000000
/-! A dict comprehension given to a name; steps of dicts. -/
namespace Zk
open PySem PySem.Spec PyProof.Rows L2
theorem swD_true {kx vx : Expr} {gs : List Comprehension} {scope : Scope} {pos py : Pos} {y : Str} {l : Nat} {env : Env} (hk : env.scope.kind = .function) (hy : env.scope.names.lookup y = some .local) (hl : (py.line == pos.line) = true)
    (ha : (scope.names.any fun (n, k) => n == y && (k == .local || k == .cell)) = false) : swapsWith (.DictComp kx vx gs scope pos) (some (.Name y py)) l env = pure true := by
  have k1 : env.kindOf y = some .local := hy
  have k2 : env.blockKind = .function := by unfold Env.blockKind; rw [hk]; rfl
  unfold swapsWith
  simp only [k2, k1, ha, Expr.pos, hl]
  rfl
section
variable {X : Cx}
theorem ps_setDc {i : Nat} {y : Str} {py : Pos} {kx vx tg iter : Expr} {ifs : List Expr} {scope : Scope} {own : List (Str × Nat)} {pos spos : Pos} {wi : TI} {g : TG} {tt : TT} {tk tv : TE} (hc : X.calm = true) (hN : X.N.Nodup) (hy : X.N[i]? = some y) (hyl : X.env.scope.names.lookup y = some .local)
    (hsw : swapsWith (.DictComp kx vx [⟨tg, iter, ifs, 0⟩] scope pos) (some (.Name y py)) spos.line X.env = pure true) (hi : PI X tg iter wi) (ok : BlkOk X.N X.env.scope scope own)
    (hg : ∀ (s : Shared) (H : Hp) (C : Addr) (cl : List (Str × Addr)) (fp : List Addr), PG (X.blk s H scope (compEnvC scope cl C X.env) fp) tg g)
    (ht : ∀ (s : Shared) (H : Hp) (C : Addr) (cl : List (Str × Addr)) (fp : List Addr), PTs (X.blk s H scope (compEnvC scope cl C X.env) fp) ifs tt)
    (hk : ∀ (s : Shared) (H : Hp) (C : Addr) (cl : List (Str × Addr)) (fp : List Addr), PE (X.blk s H scope (compEnvC scope cl C X.env) fp) kx tk)
    (he : ∀ (s : Shared) (H : Hp) (C : Addr) (cl : List (Str × Addr)) (fp : List Addr), PE (X.blk s H scope (compEnvC scope cl C X.env) fp) vx tv) (hs : ∀ x, foldedSetIterable iter X.env x = pure x := by intro _; rfl) :
    PS X (.Assign [.Name y py] (.DictComp kx vx [⟨tg, iter, ifs, 0⟩] scope pos) spos) (tAsg (tDc wi g tt tk tv (own.map (·.2))) (gName i)) := by
  refine ⟨fun pins s σ H D I h => ?_⟩
  have h : tDc wi g tt tk tv (own.map (·.2)) σ H (fun x H1 => gName i x σ H1 D.nx) := h
  rw [exec_Assign_Name_used _ _ _ _ hsw]
  refine wpAny_bind (wpAny_standAt (wpAny_bind ?_))
  show wpAny (model X.prog X.w) X.A (do let _ ← comprehension (.DictComp kx vx [⟨tg, iter, ifs, 0⟩] scope pos) scope X.env (firstIterPos [⟨tg, iter, ifs, 0⟩] pos) _ false (eval iter X.env) (some (assign (.Name y py) X.env))) _ _ s
  refine wpAny_bind (thn (dc_core (Qf := fun _ s' => SP X pins D .next s') hc hN I hi ok hg ht hk he hs h fun L C s' m H' I' q hn f => ?_) fun _ s' hq => wpAny_pure (wpAny_pure hq))
  obtain ⟨f0, f1, f2, f3, f4, f5⟩ := f
  show wpAny (model X.prog X.w) X.A (assign (.Name y py) X.env (.ref L)) _ _ _
  refine wpAny_assign_Name (store_ok2 (v := V.ref L) I' hN hy (.inl hyl) rfl (fun s2 I2 ⟨a, sb, ha⟩ => ⟨m, hn.sameBut sb ?_, fun h3 sb3 => ⟨_, H', I2.turned (t' := s2.toks) (fun b o hb e => (sb3.2 b hb).trans e) f0 f1 f3 f4 f5, q⟩⟩) (.inr hyl))
  rcases ha with z | z
  · rw [z]; exact f1
  · exact fun e => f4 y a z e.symm
end
end Zk
set_option Elab.async false
set_option linter.all false
set_option maxRecDepth 100000
set_option maxHeartbeats 2000000
/-! Defs that raise errors of the program's own. -/
namespace Zk
open PySem PySem.Spec PyProof.Rows L2
/-- as okC, for a def that may raise -/
theorem okCX {P : Program} {w : World} {K : PySem.W.Frag} {mg : Str → Option Value} {base : Heap} {x qual : Str} {params : Arguments} {body : List Stmt} {scope : Scope} {f : Addr} {fd : FuncData} {N ps : List Str} {k : Nat} {sp : Sp} (F : FunD K x qual params body scope [] [] f fd) (S : FnScope N ps scope) (len : ∀ vs H Q E, sp vs H Q E → vs.length = ps.length)
    (hbody : ∀ (A : Around) (outer : List Env) (s : Shared) (H : Hp) (vs : List V) (Q : VK) (E : XK), Room k (A.deeper (envOfC qual scope s.heap.objs.size f fd.code)) → sp vs H Q E →
      ∃ t, PSs (cxOf (L2.CX P w) P w K mg base N qual scope f fd.code A outer s H E) body t ∧ t { nx := fun _ H' => Q .non H', rt := Q } (start N vs) H) : FnOk P w K mg base (L2.CX P w) (k + 1) f fd ps sp := by
  obtain ⟨oc, od, dV, kV, doc, pm, an, cdv, ct, osl, rfl, lk, hcd, _, _⟩ := F.ex
  exact fn_of lk hcd S len fun A outer s H vs Q E hr hsp => hbody A outer s H vs Q E hr hsp
/-- a def that may raise, by its name -/
def HasX (P : Program) (w : World) (K : PySem.W.Frag) (mg : Str → Option Value) (base : Heap) (k : Nat) (x : Str) (ps : List Str) (sp : Sp) : Prop :=
  ∃ f fd, FnOk P w K mg base (L2.CX P w) k f fd ps sp ∧ PySem.W.keepIn K (.ref f) = true ∧ Binds K fd ps [] ∧ mg x = some (.ref f)
theorem pe_callHX {X : Cx} {k : Nat} {x : Str} {ps : List Str} {sp : Sp} {e : Expr} {es : List Expr} {t : TA} {p pos : Pos} {W : WX} (h : HasX X.prog X.w X.K X.mg X.base k x ps sp) (hr : Room k X.A) (hg : Gl X x) (tk : Takes X W) (ha : PA X (e :: es) t)
    (hdb : (x == ("__debug__" : Str)) = false := by decide) (he : starEach (e :: es) X.env = (false, eval e X.env) :: starEach es X.env := by rfl) (hpl : (backTo pos (starEach es X.env)).any (·.1) = false := by rfl) :
    PE X (.Call (.Name x p) (e :: es) [] pos) (tCallS sp (WE W) t) := by
  obtain ⟨f, fd, F, hk, hb, hm⟩ := h
  exact pe_callS F hr hg hm hk hb (fun σ => passAt tk σ) ha hdb he hpl
theorem z_callS {sp : Sp} {E : L2.St → XK} {t : TA} {σ : L2.St} {H : Hp} {Q : VK} (q : t σ H fun vs H1 => sp vs H1 Q (E σ)) : tCallS sp E t σ H Q := q
/-- an error class of the program's own over ValueError, without an __init__ -/
structure ErrC (K : PySem.W.Frag) (C : Addr) : Prop where
  x : PySem.W.excIn K C [.type "ValueError", .type "Exception", .type "BaseException", .type "object"] "ValueError.__new__" = true
  k : PySem.W.keepIn K (.ref C) = true
  b : PySem.W.subIn K (.ref C) (.type "BaseException") = some true
  t : PySem.W.typeIn K (.ref C) = some (.type "type")
theorem pmk_err {X : Cx} {C : Addr} {x m : Str} {j : Nat} {p p2 pos : Pos} (c : ErrC X.K C) (g : X.mg x = some (.ref C)) (hg : Gl X x) (hdb : (x == ("__debug__" : Str)) = false := by decide) : PMk X (.Call (.Name x p) [.Constant (.str m) j p2] [] pos) (fun _ H Q => Q (.ref C) none H) :=
  pmk_own PySem.F.excBase_ValueError c.x g c.k (raises_own c.b c.t) hg hdb
theorem errC_of {K : PySem.W.Frag} {x : Str} (c : (He.Fa.exc x).ok K = true) : ErrC K (He.ga K x) := by
  obtain ⟨a, b, c, d⟩ := He.exc_ok c
  exact ⟨a, b, c, d⟩
/-- isinstance(e, c), e the exception that the suite holds, of a class D that is told by then -/
def rIsX (K : PySem.W.Frag) (cls : Value) (d : Option Addr) (a : Addr) : List V → Hp → VK → Prop := fun xs H Q => ∃ D, cls = .ref D ∧ d = none ∧ ExcC K D ∧ rIsE K D a xs H Q
theorem call_isX {X : Cx} (K : PySem.W.Frag) {a : Addr} {oe : Obj} {cls : Value} {d : Option Addr} {pn : List (Addr × Obj)} (hz : Zc cls d oe) (hf : ∃ vs, oe.data = .fields vs) (ek : X.K = K := by rfl) : CallR (X.suite a ((a, oe) :: pn)) (.builtin "isinstance") (rIsX K cls d a) := by
  rw [← ek]
  intro pins s σ H xs us Q I r h
  obtain ⟨D, rfl, rfl, C, h⟩ := h
  exact call_isE C hz hf pins s σ H xs us Q I r h
def rIsXT (K : PySem.W.Frag) (cls : Value) (d : Option Addr) (a : Addr) : List V → Hp → VK → Prop := fun xs H Q => ∃ (D t : Addr) (cs : List Addr) (b : Bool), cls = .ref D ∧ d = none ∧ ExcC K D ∧ xs = [.ref a, .ref t] ∧ H t = some (.tup (cs.map V.ref)) ∧ PySem.W.kitAny K (.ref D) (cs.map Value.ref) = some b ∧ Q (.bl b) H
theorem vals_refs : ∀ {cs : List Addr} {us : List Value}, Vals (cs.map V.ref) us → us = cs.map Value.ref
  | [], us, h => by cases h; rfl
  | c :: cs, us, h => by
    rw [List.map_cons] at h
    cases h with
    | cons r t =>
      cases r
      rw [vals_refs t, List.map_cons]
theorem call_isXT {X : Cx} (K : PySem.W.Frag) {a : Addr} {oe : Obj} {cls : Value} {d : Option Addr} {pn : List (Addr × Obj)} (hz : Zc cls d oe) (hf : ∃ vs, oe.data = .fields vs) (ek : X.K = K := by rfl) : CallR (X.suite a ((a, oe) :: pn)) (.builtin "isinstance") (rIsXT K cls d a) := by
  rw [← ek]
  intro pins s σ H xs us Q I r h
  obtain ⟨D, t, cs, b, rfl, rfl, C, rfl, ht, e, q⟩ := h
  cases r with
  | cons rx rr =>
    cases rr with
    | cons rt rr =>
      cases rr
      cases rx
      cases rt
      obtain ⟨hget, _⟩ := I.pin (a, oe) (List.mem_append.mpr (.inl List.mem_cons_self))
      obtain ⟨vs, hv⟩ := hf
      have J : PySem.W.InstAt s.heap a oe D none := by
        obtain ⟨oc, od, oda, osl⟩ := oe
        obtain ⟨h1, h2⟩ := hz
        dsimp only at h1 h2 hv
        subst h1 h2 hv
        exact ⟨hget, rfl, rfl, trivial⟩
      obtain ⟨z, its, rv, p⟩ := I.hok t _ ht
      have ei := vals_refs rv
      subst ei
      obtain ⟨⟨c1, d1, da1, sl1⟩, g1, g2, n, g3⟩ := p
      dsimp only at g2 g3
      subst g2 g3
      exact PySem.W.kia_tup (PySem.W.handS_kitx_exc C.hg C.hk C.hs C.hd C.ha C.hn C.ht C.hm) I.kIn J g1 e (fun z => nomatch z) fun tk => ⟨.bl b, H, I.kept (t' := tk) fun _ _ z => z, rfl, q⟩
/-- what the class D says, and of which classes its instances are and aren't -/
def excB (K : PySem.W.Frag) (D : Addr) (yes no : List Value) : Bool :=
  decide (PySem.W.findIn K (.ref D) "__getattribute__" = some (some (.builtin "BaseException.__getattribute__"))) && (decide (PySem.W.findIn K (.ref D) "__getattr__" = some none) && (decide (PySem.W.subIn K (.ref D) (.type "BaseException") = some true) && (PySem.W.hasDictIn K D &&
  (decide (PySem.W.findIn K (.ref D) "__class__" = some (some (.builtin "object.__class__"))) && (decide (PySem.W.specialIn K (.builtin "object.__class__") "__get__" = some (some (.builtin "getset_descriptor.__get__"))) && (decide (PySem.W.takesIn K (.builtin "object.__class__") = some true) && (decide (PySem.W.mroIn K D (.type "object") = some true) &&
  (yes.all (fun c => decide (PySem.W.kitOne K (.ref D) c = some true)) && decide (PySem.W.kitAny K (.ref D) no = some false)))))))))
theorem excB_ok {K : PySem.W.Frag} {D : Addr} {yes no : List Value} (h : excB K D yes no = true) : ExcC K D ∧ (∀ c ∈ yes, PySem.W.kitOne K (.ref D) c = some true) ∧ PySem.W.kitAny K (.ref D) no = some false := by
  unfold excB at h
  simp only [Bool.and_eq_true, decide_eq_true_eq, List.all_eq_true] at h
  obtain ⟨h1, h2, h3, h4, h5, h6, h7, h8, h9, h10⟩ := h
  exact ⟨⟨h1, h2, h3, h4, h5, h6, h7, h8⟩, h9, h10⟩
/-- dict(xs) of a list of pairs -/
def rDictQ (K : PySem.W.Frag) : List V → Hp → VK → Prop := fun xs H Q => ∃ (a : Addr) (ps : List Addr) (kvs : List (Key × V)), xs = [.ref a] ∧ SqL K H a (ps.map V.ref) ∧ Paired (fun p kv => SqT K H p [kV kv.1, kv.2]) ps kvs ∧
    ∀ p, H p = none → Q (.ref p) (upd H p (.dK (mergeK [] kvs)))
theorem call_dictQ {X : Cx} (K : PySem.W.Frag) (hc : X.calm = true) (e : X.K = K := by rfl) : CallR X (.type "dict") (rDictQ K) := by rw [← e]; exact call_dictP hc
theorem units65 {k : Nat} {A : Around} (r : Room k A) : A.units + 65 < cLine := by have := r.un; omega
theorem op_inDE {X : Cx} (K : PySem.W.Frag) (hu : X.A.units + 65 < cLine) (e : X.K = K := by rfl) : OpR X (compareOp .In) (rInD K) := by rw [← e]; exact op_inD hu
theorem TyV.noLst {H : Hp} {v : V} {n : String} (h : TyV H v n) (ne : n ≠ "list") : kitB n "list" = some false := by
  cases h <;> first | decide +kernel | exact absurd rfl ne
end Zk
local macro_rules | `(tactic| walk_at "z0") => `(tactic| first
  | ((with_reducible refine Zk.z_var (v := ?zv) ?zh ?_); (case zh => exact rfl))
  | (with_reducible refine Zk.z_c ?_)
  | (with_reducible refine Zk.z_op ?_)
  | (with_reducible refine Zk.z_un ?_)
  | (with_reducible refine Zk.z_I0 ?_)
  | (with_reducible refine Zk.z_U ?_)
  | (with_reducible refine Zk.z_eqI ?_)
  | (with_reducible refine Zk.z_neI ?_)
  | (with_reducible refine Zk.z_eqB ?_)
  | (with_reducible refine Zk.z_neB ?_)
  | (with_reducible refine Zk.z_isB ?_)
  | (with_reducible refine Zk.z_notB ?_)
  | (with_reducible refine Zk.z_nil ?_)
  | (with_reducible refine Zk.z_cons ?_)
  | (with_reducible refine Zk.z_tup ?_)
  | (with_reducible refine Zk.z_lst ?_)
  | (with_reducible refine Zk.z_call ?_)
  | (with_reducible refine Zk.z_cb ?_)
  | (with_reducible refine Zk.z_orV ?_)
  | (with_reducible refine Zk.z_notV ?_)
  | (with_reducible refine Zk.z_ebl ?_)
  | (with_reducible refine Zk.z_eint ?_)
  | (with_reducible refine Zk.z_test ?_)
  | (with_reducible refine Zk.z_B ?_)
  | (with_reducible refine Zk.z_or ?_)
  | (with_reducible refine Zk.z_not ?_)
  | (with_reducible refine Zk.z_yes ?_)
  | (with_reducible refine Zk.z_seq ?_)
  | (with_reducible refine Zk.z_next ?_)
  | (with_reducible refine Zk.z_asg ?_)
  | (with_reducible refine Zk.z_name ?_)
  | (with_reducible refine Zk.z_ret ?_)
  | (with_reducible refine Zk.z_retN ?_)
  | (with_reducible refine Zk.z_drop ?_)
  | (with_reducible refine Zk.z_if ?_)
  | (with_reducible refine Zk.z_par ?_)
  | (with_reducible refine Zk.z_par2 ?_)
  | (with_reducible refine Zk.z_gSub ?_)
  | (with_reducible refine Zk.z_gCons ?_)
  | (with_reducible refine Zk.z_gNil ?_)
  | ((with_reducible refine Zk.z_pow ?zh ?_); (case zh => exact ⟨by decide, by decide, by decide⟩))
  | ((with_reducible refine Zk.z_modN ?zh ?_); (case zh => first | decide | omega))
  | (with_reducible refine Zk.z_for ?_)
  | (with_reducible refine Zk.z_rng1 ?_)
  | (with_reducible refine Zk.z_iL ?_)
  | (with_reducible refine Zk.z_iT ?_)
  | (with_reducible refine Zk.z_bm ?_)
  | (with_reducible refine Zk.z_bits ?_)
  | (with_reducible refine Zk.z_sl ?_)
  | (with_reducible refine Zk.z_noPart ?_)
  | (with_reducible refine Zk.z_part ?_)
  | (with_reducible refine Zk.z_chain ?_)
  | (with_reducible refine Zk.z_abs ?_)
  | (with_reducible refine Zk.z_intB ?_)
  | (with_reducible refine L2.iteT ?_)
  | (with_reducible refine L2.iteF ?_)
  | ((with_reducible refine Zk.z_itT ?zh ?_); (case zh => exact rfl))
  | ((with_reducible refine Zk.z_itF ?zh ?_); (case zh => exact rfl)))
local macro_rules | `(tactic| walk_at "z") => `(tactic| first
  | (walk_at "z0")
  | (with_reducible refine Zk.z_andV ?_)
  | (with_reducible refine Zk.z_and ?_)
  | (with_reducible refine Zk.z_orT ?_))
local macro_rules | `(tactic| walk_at "zy") => `(tactic| repeat (walk_at "z0"))
local macro_rules | `(tactic| walk_at "zz") => `(tactic| repeat (walk_at "z"))
local macro_rules | `(tactic| walk_at "lk") => `(tactic| first
  | assumption
  | ((refine Zk.same_get (by assumption) ?_); walk_at "lk")
  | ((refine Zk.Dr.tup (by assumption) ?_); walk_at "lk"))
namespace Zl
open PySem PySem.Spec PyProof.Rows L2 Zk
def topS (i : Nat) : Stmt := PySem.Challenge.pw_sumtold_k13_what_is_no_web.main.body.getD i (.Pass ⟨0, 0, 0, 0⟩)
abbrev s_is_whole_number : Stmt := topS 9
theorem sc_is_whole_number : FnScope ["thing"] ["thing"] (defScope s_is_whole_number) := ⟨rfl, rfl, rfl, by decide +kernel, rfl, by decide +kernel, by decide +kernel⟩
abbrev s_is_name : Stmt := topS 15
theorem sc_is_name : FnScope ["thing", "sign"] ["thing"] (defScope s_is_name) := ⟨rfl, rfl, rfl, by decide +kernel, rfl, by decide +kernel, by decide +kernel⟩
abbrev s_is_own_number : Stmt := topS 16
theorem sc_is_own_number : FnScope ["thing"] ["thing"] (defScope s_is_own_number) := ⟨rfl, rfl, rfl, by decide +kernel, rfl, by decide +kernel, by decide +kernel⟩
abbrev s_is_numbers : Stmt := topS 17
theorem sc_is_numbers : FnScope ["thing", "number"] ["thing"] (defScope s_is_numbers) := ⟨rfl, rfl, rfl, by decide +kernel, rfl, by decide +kernel, by decide +kernel⟩
abbrev s_are_unlike_names : Stmt := topS 18
theorem sc_are_unlike_names : FnScope ["one", "other"] ["one", "other"] (defScope s_are_unlike_names) := ⟨rfl, rfl, rfl, by decide +kernel, rfl, by decide +kernel, by decide +kernel⟩
abbrev s_is_hand : Stmt := topS 19
theorem sc_is_hand : FnScope ["thing"] ["thing"] (defScope s_is_hand) := ⟨rfl, rfl, rfl, by decide +kernel, rfl, by decide +kernel, by decide +kernel⟩
abbrev s_is_tie : Stmt := topS 20
theorem sc_is_tie : FnScope ["thing"] ["thing"] (defScope s_is_tie) := ⟨rfl, rfl, rfl, by decide +kernel, rfl, by decide +kernel, by decide +kernel⟩
abbrev s_check_hands : Stmt := topS 21
theorem sc_check_hands : FnScope ["hands", "hand", "name", "numbers"] ["hands"] (defScope s_check_hands) := ⟨rfl, rfl, rfl, by decide +kernel, rfl, by decide +kernel, by decide +kernel⟩
abbrev s_check_ties : Stmt := topS 22
theorem sc_check_ties : FnScope ["ties", "names", "tie", "one", "other"] ["ties", "names"] (defScope s_check_ties) := ⟨rfl, rfl, rfl, by decide +kernel, rfl, by decide +kernel, by decide +kernel⟩
abbrev s_check_web : Stmt := topS 23
theorem sc_check_web : FnScope ["web", "hands", "ties", "name", "numbers"] ["web"] (defScope s_check_web) := ⟨rfl, rfl, rfl, by decide +kernel, rfl, by decide +kernel, by decide +kernel⟩
abbrev s_is_whole : Stmt := topS 26
theorem sc_is_whole : FnScope ["web", "hands", "ties", "named", "name", "numbers"] ["web"] (defScope s_is_whole) := ⟨rfl, rfl, rfl, by decide +kernel, rfl, by decide +kernel, by decide +kernel⟩
abbrev s__law_cell_at : Stmt := topS 28
theorem sc__law_cell_at : FnScope ["_law_script", "_law_k"] ["_law_script", "_law_k"] (defScope s__law_cell_at) := ⟨rfl, rfl, rfl, by decide +kernel, rfl, by decide +kernel, by decide +kernel⟩
abbrev s__law_mixed : Stmt := topS 29
theorem sc__law_mixed : FnScope ["_law_cell", "_law_k", "_law_number"] ["_law_cell", "_law_k"] (defScope s__law_mixed) := ⟨rfl, rfl, rfl, by decide +kernel, rfl, by decide +kernel, by decide +kernel⟩
abbrev s__law_well : Stmt := topS 30
theorem sc__law_well : FnScope ["_law_cell"] ["_law_cell"] (defScope s__law_well) := ⟨rfl, rfl, rfl, by decide +kernel, rfl, by decide +kernel, by decide +kernel⟩
abbrev s__law_draw : Stmt := topS 31
theorem sc__law_draw : FnScope ["_law_well_here", "_law_many", "_law_found"] ["_law_well_here", "_law_many"] (defScope s__law_draw) := ⟨rfl, rfl, rfl, by decide +kernel, rfl, by decide +kernel, by decide +kernel⟩
abbrev s__law_pick : Stmt := topS 32
theorem sc__law_pick : FnScope ["_law_well_here", "_law_some"] ["_law_well_here", "_law_some"] (defScope s__law_pick) := ⟨rfl, rfl, rfl, by decide +kernel, rfl, by decide +kernel, by decide +kernel⟩
abbrev s__law_names : Stmt := topS 33
theorem sc__law_names : FnScope ["_law_well_here", "_law_many", "_law_letters", "_law_words", "_law_shift", "_law_way", "_law_stem", "_law_at", "_law_k"] ["_law_well_here", "_law_many"] (defScope s__law_names) := ⟨rfl, rfl, rfl, by decide +kernel, rfl, by decide +kernel, by decide +kernel⟩
abbrev s__law_numbers : Stmt := topS 34
theorem sc__law_numbers : FnScope ["_law_well_here", "_law_size", "_law_found", "_law_k", "_law_some"] ["_law_well_here", "_law_size"] (defScope s__law_numbers) := ⟨rfl, rfl, rfl, by decide +kernel, rfl, by decide +kernel, by decide +kernel⟩
abbrev s__law_ties : Stmt := topS 35
theorem sc__law_ties : FnScope ["_law_well_here", "_law_names_here", "_law_share", "_law_found", "_law_k", "_law_j", "_law_at"] ["_law_well_here", "_law_names_here", "_law_share"] (defScope s__law_ties) := ⟨rfl, rfl, rfl, by decide +kernel, rfl, by decide +kernel, by decide +kernel⟩
abbrev s__law_web : Stmt := topS 36
theorem sc__law_web : FnScope ["_law_well_here", "_law_most", "_law_size", "_law_names_here", "_law_hands", "_law_name"] ["_law_well_here", "_law_most"] (defScope s__law_web) := ⟨rfl, rfl, rfl, by decide +kernel, rfl, by decide +kernel, by decide +kernel⟩
abbrev s__law_odd_hand : Stmt := topS 37
theorem sc__law_odd_hand : FnScope ["_law_well_here", "_law_hands", "_law_name", "_law_numbers_here", "_law_other", "_law_strange", "_law_at", "_law_odd", "_law_some"] ["_law_well_here", "_law_hands"] (defScope s__law_odd_hand) := ⟨rfl, rfl, rfl, by decide +kernel, rfl, by decide +kernel, by decide +kernel⟩
abbrev s__law_odd_hands : Stmt := topS 38
theorem sc__law_odd_hands : FnScope ["_law_well_here", "_law_hands", "_law_way", "_law_at", "_law_spare", "_law_shorter", "_law_odd", "_law_one"] ["_law_well_here", "_law_hands"] (defScope s__law_odd_hands) := ⟨rfl, rfl, rfl, by decide +kernel, rfl, by decide +kernel, by decide +kernel⟩
abbrev s__law_odd_ties : Stmt := topS 39
theorem sc__law_odd_ties : FnScope ["_law_well_here", "_law_hands", "_law_ties_here", "_law_names_here", "_law_name", "_law_other", "_law_at", "_law_strange", "_law_some", "_law_tie", "_law_bad_here", "_law_hand", "_law_one"] ["_law_well_here", "_law_hands", "_law_ties_here"] (defScope s__law_odd_ties) := ⟨rfl, rfl, rfl, by decide +kernel, rfl, by decide +kernel, by decide +kernel⟩
abbrev s__law_bad : Stmt := topS 40
theorem sc__law_bad : FnScope ["_law_well_here", "_law_hands", "_law_ties_here", "_law_way", "_law_some"] ["_law_well_here", "_law_hands", "_law_ties_here"] (defScope s__law_bad) := ⟨rfl, rfl, rfl, by decide +kernel, rfl, by decide +kernel, by decide +kernel⟩
abbrev s__law_refused : Stmt := topS 41
theorem sc__law_refused : FnScope ["_law_way", "_law_web_here", "_law_found", "e", "_law_others"] ["_law_way", "_law_web_here"] (defScope s__law_refused) := ⟨rfl, rfl, rfl, by decide +kernel, rfl, by decide +kernel, by decide +kernel⟩
abbrev s_law : Stmt := topS 42
theorem sc_law : FnScope ["_law_script", "_law_cell", "_law_well_here", "_law_hands", "_law_ties_here", "_law_turn", "_law_bad_here"] ["_law_script"] (defScope s_law) := ⟨rfl, rfl, rfl, by decide +kernel, rfl, by decide +kernel, by decide +kernel⟩
section
variable {P : Program} {w : World} {K : PySem.W.Frag} {mg : Str → Option Value} {base : Heap}
def spWhole (K : PySem.W.Frag) : Sp := fun vs H Q _ => ∃ (x : V) (n : String) (a b : Bool), vs = [x] ∧ TyX K H x (.type n) ∧ kitB n "int" = some a ∧ kitB n "bool" = some b ∧ Q (.bl (a && !b)) H
theorem ok_is_whole_number {f : Addr} {fd : FuncData} (F : FnP K "is_whole_number" s_is_whole_number f fd) (m_isinstance : mg "isinstance" = none) (m_int : mg "int" = none) (m_bool : mg "bool" = none) : FnOk P w K mg base CX0 1 f fd ["thing"] (spWhole K) := by
  refine F.ok sc_is_whole_number (fun vs H Q E h => ?_) (fun cdv A outer s H vs Q E hr h => ?_)
  · obtain ⟨x, n, a, b, rfl, _⟩ := h; rfl
  obtain ⟨x, n, a, b, rfl, ty, ha, hb, q⟩ := h
  refine ⟨_, PSs.nox (pss_one (ps_ret (pe_and (pe_callB (call_isiE K) (by rfl) m_isinstance (by decide +kernel) (pa_cons (pv 0) (pa_cons (pe_bltn (v := .ty "int") (by rfl) m_int (by decide +kernel) rfl) pa_nil))) (pe_one (pe_not (pe_callB (call_isiE K) (by rfl) m_isinstance (by decide +kernel) (pa_cons (pv 0) (pa_cons (pe_bltn (v := .ty "bool") (by rfl) m_bool (by decide +kernel) rfl) pa_nil)))))))), ?_⟩
  walk_at "zz"
  refine z_isi ty ha ?_
  walk_at "zz"
  cases a with
  | true =>
    walk_at "zz"
    refine z_isi ty hb ?_
    walk_at "zz"
    exact q
  | false =>
    walk_at "zz"
    exact q
def spIsName (K : PySem.W.Frag) (Pt : Addr) : Sp := fun vs H Q _ => ∃ x, vs = [x] ∧ ((∃ n, TyX K H x (.type n) ∧ kitB n "str" = some false ∧ Q (.bl false) H) ∨ ∃ z : Str, x = .str z ∧ z.length ≤ 1000 ∧ GxR.TabG H Pt ∧ ∀ H2, GxR.Tabbed Pt H H2 → Q (.bl (nmB z)) H2)
theorem ok_is_name {f ca Pt : Addr} {fd : FuncData} {t1 : Tok} (F : FnP K "is_name" s_is_name f fd) (hcd : fd.code = .ref ca) (TB : GxR.TabB base mg ca Pt) (m_isinstance : mg "isinstance" = none) (m_str : mg "str" = none) (m_len : mg "len" = none) (m_all : mg "all" = none) (c_LONGEST_NAME : mg "LONGEST_NAME" = some (.int 8 t1)) : FnOk P w K mg base CX0 5 f fd ["thing"] (spIsName K Pt) := by
  refine okC F sc_is_name (fun vs H Q E h => ?_) (fun A outer s H vs Q E hr h => ?_)
  · obtain ⟨x, rfl, _⟩ := h; rfl
  obtain ⟨x, rfl, h⟩ := h
  refine ⟨_, PSs.nox (pss_cons (ps_if (PW.pt (pw_or (pt_not (pt_val (pe_callB (call_isiE K) (by rfl) m_isinstance (by decide +kernel) (pa_cons (pv 0) (pa_cons (pe_bltn (v := .ty "str") (by rfl) m_str (by decide +kernel) rfl) pa_nil))))) (pw_or1 (pt_not (pt_chain op_le op_le pe_int (pe_callB (call_lenE K) (by rfl) m_len (by decide +kernel) (pa_cons (pv 0) pa_nil)) (pe_glob (v := .int 8) (by rfl) c_LONGEST_NAME ⟨_, rfl⟩))))))
    (pss_one (ps_ret pe_bl))
    pss_nil)
  (pss_one (ps_ret (pe_all (k := 0) (own := [("sign", 1)]) (g := gName 1) (hr.mono (by decide)) (by rfl) m_all TB hcd (by rfl) sc_is_name.nd (pi_str (pv 0)) (blkOk_by (own := [("sign", 1)]) (N := ["thing", "sign"]) (sc := defScope s_is_name) (by decide +kernel)) ⟨rfl, by decide +kernel, rfl⟩ (fun _ _ _ _ _ _ _ hr => (pg_name (i := 1) sc_is_name.nd rfl (.inl rfl))) (fun _ _ _ _ _ _ _ hr => pts_nil) (fun _ _ _ _ _ _ _ hr => (pe_chain op_leS op_leS pe_str (pv 1) pe_str)) (fun _ => rfl))))), ?_⟩
  walk_at "zz"
  rcases h with ⟨n, ty, hk, q⟩ | ⟨z, rfl, hz, hT, q⟩
  · refine z_isi ty hk ?_
    walk_at "zz"
    exact q
  · refine z_isi (n := "str") (k := true) (.base (.str z)) (by decide +kernel) ?_
    walk_at "zz"
    refine z_lenS hz ?_
    walk_at "zz"
    have q0 := q H ⟨hT, fun _ _ => rfl⟩
    unfold nmB at q q0
    by_cases h1 : 1 ≤ z.length
    · rw [decide_eq_true h1] at q q0
      rw [decide_eq_true (show (1 : Int) ≤ (z.length : Int) by omega)]
      walk_at "zz"
      by_cases h2 : z.length ≤ 8
      · rw [decide_eq_true h2] at q q0
        rw [decide_eq_true (show (z.length : Int) ≤ 8 by omega)]
        walk_at "zz"
        refine ⟨_, rfl, z, rfl, hT, fun H2 hT2 => ?_⟩
        have q2 := q H2 hT2
        simp only [Bool.true_and] at q2
        have ez : ∀ i c, z.cps[i]? = some c → z.cps.toList[i]? = some c := fun i c h => by rw [Array.getElem?_toList]; exact h
        refine all_pure (J := Its z) z.cps.size (fun i => match z.cps[i]? with | some c => smB c | none => false) (fun i hi => hi) (Nat.le_refl _) (fun i x H' hi hy Q' B hq => ?_) (fun ha => ?_) (fun i hi hf => ?_)
        · obtain ⟨rfl, c, hc, rfl⟩ := hy
          simp only [hc] at hq
          refine ⟨rfl, ?_⟩
          walk_at "zz"
          refine z_leS (c := 97) (d := c) ?_
          walk_at "zz"
          unfold smB at hq
          by_cases hc1 : 97 ≤ c
          · rw [decide_eq_true hc1] at hq ⊢
            walk_at "zz"
            exact z_leS (c := c) (d := 122) hq
          · rw [decide_eq_false hc1] at hq ⊢
            walk_at "zz"
            exact hq
        · refine bool_bl (Eq.symm ?_) q2
          rw [List.all_eq_true]
          intro c hc
          obtain ⟨j, hj, e⟩ := List.getElem_of_mem hc
          have hj' : j < z.cps.size := by simpa using hj
          have := ha j hj'
          have e2 : z.cps[j]? = some c := by rw [← Array.getElem?_toList, List.getElem?_eq_getElem hj, e]
          simpa [e2] using this
        · refine bool_bl (Eq.symm ?_) q2
          rw [Bool.eq_false_iff]
          intro ht
          rw [List.all_eq_true] at ht
          have e2 : z.cps[i]? = some z.cps[i] := Array.getElem?_eq_getElem hi
          simp only [e2] at hf
          rw [ht _ (by simp)] at hf
          cases hf
      · rw [decide_eq_false h2] at q0
        rw [decide_eq_false (show ¬ (z.length : Int) ≤ 8 by omega)]
        walk_at "zz"
        exact q0
    · rw [decide_eq_false h1] at q0
      rw [decide_eq_false (show ¬ (1 : Int) ≤ (z.length : Int) by omega)]
      walk_at "zz"
      exact q0
def spOwn : Sp := fun vs H Q _ => ∃ x k, vs = [x] ∧ OwnV H x k ∧ Q (.bl k) H
theorem ok_is_own_number {f : Addr} {fd : FuncData} {t1 : Tok} (F : FnP K "is_own_number" s_is_own_number f fd) (c_GREATEST_NUMBER : mg "GREATEST_NUMBER" = some (.int 1000000000000 t1)) (h_is_whole_number : Has P w K mg base 1 "is_whole_number" ["thing"] (spWhole K)) : FnOk P w K mg base CX0 2 f fd ["thing"] spOwn := by
  refine F.ok sc_is_own_number (fun vs H Q E h => ?_) (fun cdv A outer s H vs Q E hr h => ?_)
  · obtain ⟨x, k, rfl, _⟩ := h; rfl
  obtain ⟨x, k, rfl, h, q⟩ := h
  refine ⟨_, PSs.nox (pss_one (ps_ret (pe_and (pe_callH h_is_whole_number (hr.mono (by decide)) (by rfl) (pa_cons (pv 0) pa_nil)) (pe_one (pe_chain op_le op_le (pe_un un_neg (pe_glob (v := .int 1000000000000) (by rfl) c_GREATEST_NUMBER ⟨_, rfl⟩)) (pv 0) (pe_glob (v := .int 1000000000000) (by rfl) c_GREATEST_NUMBER ⟨_, rfl⟩)))))), ?_⟩
  walk_at "zz"
  rcases h with ⟨n, rfl, rfl⟩ | ⟨rfl, h⟩
  · refine ⟨_, "int", true, false, rfl, .base (.int n), by decide +kernel, by decide +kernel, ?_⟩
    walk_at "zz"
    unfold inFar at q
    by_cases h1 : -1000000000000 ≤ n
    · rw [decide_eq_true h1] at q ⊢
      walk_at "zz"
      exact q
    · rw [decide_eq_false h1] at q ⊢
      walk_at "zz"
      exact q
  · obtain ⟨n, a, b, ty, ha, hb, e⟩ := h.ty (K := K)
    refine ⟨_, n, a, b, rfl, ty, ha, hb, ?_⟩
    rw [e]
    walk_at "zz"
    exact q
def nuB (ks : List Bool) : Bool := decide (1 ≤ ks.length) && (decide (ks.length ≤ 3) && ks.all id)
def OwnAll (H : Hp) (xs : List V) (ks : List Bool) : Prop := ks.length = xs.length ∧ ∀ (i : Nat) (x : V) (k : Bool), xs[i]? = some x → ks[i]? = some k → OwnV H x k
def spNums (K : PySem.W.Frag) (Pt : Addr) : Sp := fun vs H Q _ => ∃ x, vs = [x] ∧ ((∃ n, TyX K H x (.type n) ∧ kitB n "tuple" = some false ∧ Q (.bl false) H) ∨ ∃ p xs ks, x = .ref p ∧ H p = some (.tup xs) ∧ OwnAll H xs ks ∧ GxR.TabG H Pt ∧ ∀ H2, GxR.Tabbed Pt H H2 → Q (.bl (nuB ks)) H2)
theorem ok_is_numbers {f ca Pt : Addr} {fd : FuncData} {t1 : Tok} (F : FnP K "is_numbers" s_is_numbers f fd) (hcd : fd.code = .ref ca) (TB : GxR.TabB base mg ca Pt) (m_isinstance : mg "isinstance" = none) (m_tuple : mg "tuple" = none) (m_len : mg "len" = none) (m_all : mg "all" = none) (c_MOST_NUMBERS : mg "MOST_NUMBERS" = some (.int 3 t1)) (h_is_own_number : Has P w K mg base 2 "is_own_number" ["thing"] spOwn) : FnOk P w K mg base CX0 7 f fd ["thing"] (spNums K Pt) := by
  refine okC F sc_is_numbers (fun vs H Q E h => ?_) (fun A outer s H vs Q E hr h => ?_)
  · obtain ⟨x, rfl, _⟩ := h; rfl
  obtain ⟨x, rfl, h⟩ := h
  refine ⟨_, PSs.nox (pss_cons (ps_if (PW.pt (pw_or (pt_not (pt_val (pe_callB (call_isiE K) (by rfl) m_isinstance (by decide +kernel) (pa_cons (pv 0) (pa_cons (pe_bltn (v := .ty "tuple") (by rfl) m_tuple (by decide +kernel) rfl) pa_nil))))) (pw_or1 (pt_not (pt_chain op_le op_le pe_int (pe_callB (call_lenE K) (by rfl) m_len (by decide +kernel) (pa_cons (pv 0) pa_nil)) (pe_glob (v := .int 3) (by rfl) c_MOST_NUMBERS ⟨_, rfl⟩))))))
    (pss_one (ps_ret pe_bl))
    pss_nil)
  (pss_one (ps_ret (pe_all (k := 2) (own := [("number", 1)]) (g := gName 1) (hr.mono (by decide)) (by rfl) m_all TB hcd (by rfl) sc_is_numbers.nd (pi_tupE K (pv 0)) (blkOk_by (own := [("number", 1)]) (N := ["thing", "number"]) (sc := defScope s_is_numbers) (by decide +kernel)) ⟨rfl, by decide +kernel, rfl⟩ (fun _ _ _ _ _ _ _ hr => (pg_name (i := 1) sc_is_numbers.nd rfl (.inl rfl))) (fun _ _ _ _ _ _ _ hr => pts_nil) (fun _ _ _ _ _ _ _ hr => (pe_callH h_is_own_number (hr.mono (by decide)) (by rfl) (pa_cons (pv 1) pa_nil))) (fun _ => rfl))))), ?_⟩
  walk_at "zz"
  rcases h with ⟨n, ty, hk, q⟩ | ⟨p, xs, ks, rfl, hp, ⟨hl, hks⟩, hT, q⟩
  · refine z_isi ty hk ?_
    walk_at "zz"
    exact q
  · refine z_isi (n := "tuple") (k := true) (.base (.tup hp)) (by decide +kernel) ?_
    walk_at "zz"
    refine z_lenT hp ?_
    walk_at "zz"
    have q0 := q H ⟨hT, fun _ _ => rfl⟩
    unfold nuB at q q0
    rw [hl] at q q0
    by_cases h1 : 1 ≤ xs.length
    · rw [decide_eq_true h1] at q q0
      rw [decide_eq_true (show (1 : Int) ≤ (xs.length : Int) by omega)]
      walk_at "zz"
      by_cases h2 : xs.length ≤ 3
      · rw [decide_eq_true h2] at q q0
        rw [decide_eq_true (show (xs.length : Int) ≤ 3 by omega)]
        walk_at "zz"
        refine ⟨_, rfl, p, rfl, ⟨_, SqT.of hp⟩, hT, fun H2 hT2 => ?_⟩
        have q2 := q H2 hT2
        simp only [Bool.true_and] at q2
        have hp2 := tab_get hT2 hp (fun _ z => by cases z) hT
        refine all_pure (J := Itt K p) xs.length (fun i => match ks[i]? with | some k => k | none => false) (fun i hi => ⟨xs, xs[i], SqT.of hp2, List.getElem?_eq_getElem hi⟩) ⟨xs, SqT.of hp2, Nat.le_refl _⟩ (fun i x H' hi hy Q' B hq => ?_) (fun ha => ?_) (fun i hi hf => ?_)
        · obtain ⟨rfl, hx⟩ := hy
          have ex : xs[i]? = some x := hx xs (SqT.of hp2)
          have hi' : i < ks.length := by omega
          have ek : ks[i]? = some ks[i] := List.getElem?_eq_getElem hi'
          simp only [ek] at hq
          refine ⟨rfl, ?_⟩
          walk_at "zz"
          exact ⟨x, ks[i], rfl, (hks i x ks[i] ex ek).tab hT2 hT, hq⟩
        · refine bool_bl (Eq.symm ?_) q2
          rw [List.all_eq_true]
          intro k hk
          obtain ⟨j, hj, e⟩ := List.getElem_of_mem hk
          have := ha j (by omega)
          have e2 : ks[j]? = some k := by rw [List.getElem?_eq_getElem hj, e]
          simpa [e2] using this
        · refine bool_bl (Eq.symm ?_) q2
          rw [Bool.eq_false_iff]
          intro ht
          rw [List.all_eq_true] at ht
          have hi' : i < ks.length := by omega
          have e2 : ks[i]? = some ks[i] := List.getElem?_eq_getElem hi'
          simp only [e2] at hf
          have h3 : id ks[i] = true := ht _ (List.getElem_mem hi')
          rw [show id ks[i] = ks[i] from rfl, hf] at h3
          cases h3
      · rw [decide_eq_false h2] at q0
        rw [decide_eq_false (show ¬ (xs.length : Int) ≤ 3 by omega)]
        walk_at "zz"
        exact q0
    · rw [decide_eq_false h1] at q0
      rw [decide_eq_false (show ¬ (1 : Int) ≤ (xs.length : Int) by omega)]
      walk_at "zz"
      exact q0
theorem nm_sp {Pt : Addr} {H : Hp} {x : V} {k : Bool} {Q : VK} {E : XK} (h : NmV H x k) (hT : GxR.TabG H Pt) (q : ∀ H2, GxR.Tabbed Pt H H2 → Q (.bl k) H2) : spIsName K Pt [x] H Q E := by
  rcases h with ⟨n, t, ne, rfl⟩ | ⟨z, rfl, hz, rfl⟩
  · exact ⟨x, rfl, .inl ⟨n, t.x, t.noStr ne, q H ⟨hT, fun _ _ => rfl⟩⟩⟩
  · exact ⟨_, rfl, .inr ⟨z, rfl, hz, hT, q⟩⟩
theorem z_neS {H : Hp} {Q : VK} {y z : Str} (q : Q (.bl (!decide (y = z))) H) : rNe (.str y) (.str z) H Q := ⟨rfl, by
  have e : decide (V.str y = V.str z) = decide (y = z) := by
    by_cases h : y = z
    · rw [h, decide_eq_true rfl, decide_eq_true rfl]
    · rw [decide_eq_false h, decide_eq_false (fun z => h (V.str.inj z))]
  rw [e]
  exact q⟩
theorem z_eqS {H : Hp} {Q : VK} {y z : Str} (q : Q (.bl (decide (y = z))) H) : rEq (.str y) (.str z) H Q := ⟨rfl, by
  have e : decide (V.str y = V.str z) = decide (y = z) := by
    by_cases h : y = z
    · rw [h, decide_eq_true rfl, decide_eq_true rfl]
    · rw [decide_eq_false h, decide_eq_false (fun z => h (V.str.inj z))]
  rw [e]
  exact q⟩
def UnV (H : Hp) (x y : V) (k : Bool) : Prop := ∃ k1 k2, NmV H x k1 ∧ NmV H y k2 ∧ (((k1 && k2) = false ∧ k = false) ∨ ∃ z1 z2 : Str, x = .str z1 ∧ y = .str z2 ∧ k1 = true ∧ k2 = true ∧ k = !decide (z1 = z2))
theorem UnV.kp {H H' : Hp} {x y : V} {k : Bool} (h : UnV H x y k) (a : Kp H H') : UnV H' x y k := by
  obtain ⟨k1, k2, h1, h2, r⟩ := h
  exact ⟨k1, k2, h1.kp a, h2.kp a, r⟩
def spUnlike (Pt : Addr) : Sp := fun vs H Q _ => ∃ x y k, vs = [x, y] ∧ UnV H x y k ∧ GxR.TabG H Pt ∧ ∀ H2, GxR.Tabbed Pt H H2 → Q (.bl k) H2
theorem ok_are_unlike_names {f Pt : Addr} {fd : FuncData} (F : FnP K "are_unlike_names" s_are_unlike_names f fd) (h_is_name : Has P w K mg base 5 "is_name" ["thing"] (spIsName K Pt)) : FnOk P w K mg base CX0 6 f fd ["one", "other"] (spUnlike Pt) := by
  refine F.ok sc_are_unlike_names (fun vs H Q E h => ?_) (fun cdv A outer s H vs Q E hr h => ?_)
  · obtain ⟨x, y, k, rfl, _⟩ := h; rfl
  obtain ⟨x, y, k, rfl, ⟨k1, k2, n1, n2, r⟩, hT, q⟩ := h
  refine ⟨_, PSs.nox (pss_one (ps_ret (pe_and (pe_callH h_is_name (hr.mono (by decide)) (by rfl) (pa_cons (pv 0) pa_nil)) (pe_and (pe_callH h_is_name (hr.mono (by decide)) (by rfl) (pa_cons (pv 1) pa_nil)) (pe_one (pe_cmpR op_ne (pv 0) (pv 1) (nomark _))))))), ?_⟩
  walk_at "zz"
  refine nm_sp n1 hT (fun H2 T2 => ?_)
  cases k1 with
  | false =>
    walk_at "zz"
    rcases r with ⟨_, rfl⟩ | ⟨_, _, _, _, e, _⟩
    · exact q _ T2
    · cases e
  | true =>
    walk_at "zz"
    refine nm_sp (n2.kp (Kp.of_tab T2 hT)) T2.1 (fun H3 T3 => ?_)
    cases k2 with
    | false =>
      walk_at "zz"
      rcases r with ⟨_, rfl⟩ | ⟨_, _, _, _, _, e, _⟩
      · exact q _ (tab_trans T2 T3)
      · cases e
    | true =>
      walk_at "zz"
      rcases r with ⟨e, _⟩ | ⟨z1, z2, rfl, rfl, _, _, rfl⟩
      · cases e
      · exact z_neS (q _ (tab_trans T2 T3))
def NuV (H : Hp) (x : V) (k : Bool) : Prop := (∃ n, TyV H x n ∧ n ≠ "tuple" ∧ k = false) ∨ ∃ p xs ks, x = .ref p ∧ H p = some (.tup xs) ∧ OwnAll H xs ks ∧ k = nuB ks
theorem OwnAll.kp {H H' : Hp} {xs : List V} {ks : List Bool} (h : OwnAll H xs ks) (a : Kp H H') : OwnAll H' xs ks := ⟨h.1, fun i x k hx hk => (h.2 i x k hx hk).kp a⟩
theorem NuV.kp {H H' : Hp} {x : V} {k : Bool} (h : NuV H x k) (a : Kp H H') : NuV H' x k := by
  rcases h with ⟨n, t, r⟩ | ⟨p, xs, ks, e, hp, ow, r⟩
  · exact .inl ⟨n, t.kp a, r⟩
  · exact .inr ⟨p, xs, ks, e, a.tup hp, OwnAll.kp ow a, r⟩
theorem nu_sp {Pt : Addr} {H : Hp} {x : V} {k : Bool} {Q : VK} {E : XK} (h : NuV H x k) (hT : GxR.TabG H Pt) (q : ∀ H2, GxR.Tabbed Pt H H2 → Q (.bl k) H2) : spNums K Pt [x] H Q E := by
  rcases h with ⟨n, t, ne, rfl⟩ | ⟨p, xs, ks, rfl, hp, ow, rfl⟩
  · exact ⟨x, rfl, .inl ⟨n, t.x, t.noTup ne, q H ⟨hT, fun _ _ => rfl⟩⟩⟩
  · exact ⟨_, rfl, .inr ⟨p, xs, ks, rfl, hp, ow, hT, q⟩⟩
theorem own_ints {H : Hp} (ns : List Int) : OwnAll H (ns.map V.int) (ns.map inFar) := by
  refine ⟨by rw [List.length_map, List.length_map], fun i x k hx hk => ?_⟩
  rw [List.getElem?_map] at hx hk
  cases hn : ns[i]? with
  | none => rw [hn] at hx; cases hx
  | some n =>
    rw [hn] at hx hk
    cases hx
    cases hk
    exact .inl ⟨n, rfl, rfl⟩
theorem nu_ints {H : Hp} {p : Addr} {ns : List Int} (hp : H p = some (.tup (ns.map V.int))) (h1 : 1 ≤ ns.length) (h3 : ns.length ≤ 3) (h : ∀ x ∈ ns, inFar x = true) : NuV H (.ref p) true := by
  refine .inr ⟨p, _, _, rfl, hp, own_ints ns, ?_⟩
  unfold nuB
  have e : (ns.map inFar).all id = true := by
    rw [List.all_eq_true]
    intro k hk
    obtain ⟨x, hx, rfl⟩ := List.mem_map.mp hk
    exact h x hx
  rw [List.length_map, decide_eq_true h1, decide_eq_true h3, e]
  rfl
/-- is_hand's answer -/
def HdV (H : Hp) (v : V) (k : Bool) : Prop := (∃ n, TyV H v n ∧ n ≠ "tuple" ∧ k = false) ∨ ∃ p xs, v = .ref p ∧ H p = some (.tup xs) ∧ ((xs.length ≠ 2 ∧ k = false) ∨ ∃ x y k1 k2, xs = [x, y] ∧ NmV H x k1 ∧ NuV H y k2 ∧ k = (k1 && k2))
theorem HdV.kp {H H' : Hp} {v : V} {k : Bool} (h : HdV H v k) (a : Kp H H') : HdV H' v k := by
  rcases h with ⟨n, t, r⟩ | ⟨p, xs, e, hp, r | ⟨x, y, k1, k2, ex, h1, h2, ek⟩⟩
  · exact .inl ⟨n, t.kp a, r⟩
  · exact .inr ⟨p, xs, e, a.tup hp, .inl r⟩
  · exact .inr ⟨p, xs, e, a.tup hp, .inr ⟨x, y, k1, k2, ex, h1.kp a, h2.kp a, ek⟩⟩
def spHand (Ps : List Addr) : Sp := fun vs H Q _ => ∃ v k, vs = [v] ∧ HdV H v k ∧ TGs H Ps ∧ ∀ H2, Kc Ps H H2 → Q (.bl k) H2
theorem ok_is_hand {f P1 P2 : Addr} {Ps : List Addr} {fd : FuncData} (F : FnP K "is_hand" s_is_hand f fd) (i1 : P1 ∈ Ps) (i2 : P2 ∈ Ps) (m_isinstance : mg "isinstance" = none) (m_tuple : mg "tuple" = none) (m_len : mg "len" = none)
    (h_is_name : Has P w K mg base 5 "is_name" ["thing"] (spIsName K P1)) (h_is_numbers : Has P w K mg base 7 "is_numbers" ["thing"] (spNums K P2)) : FnOk P w K mg base CX0 8 f fd ["thing"] (spHand Ps) := by
  refine F.ok sc_is_hand (fun vs H Q E h => ?_) (fun cdv A outer s H vs Q E hr h => ?_)
  · obtain ⟨v, k, rfl, _⟩ := h; rfl
  obtain ⟨v, k, rfl, dd, hT, q⟩ := h
  refine ⟨_, PSs.nox (pss_cons (ps_if (PW.pt (pw_or (pt_not (pt_val (pe_callB (call_isiE K) (by rfl) m_isinstance (by decide +kernel) (pa_cons (pv 0) (pa_cons (pe_bltn (v := .ty "tuple") (by rfl) m_tuple (by decide +kernel) rfl) pa_nil))))) (pw_or1 (pt_cmpR op_ne (pe_callB (call_lenE K) (by rfl) m_len (by decide +kernel) (pa_cons (pv 0) pa_nil)) pe_int (nomark _)))))
    (pss_one (ps_ret pe_bl))
    pss_nil)
  (pss_one (ps_ret (pe_and (pe_callH h_is_name (hr.mono (by decide)) (by rfl) (pa_cons (pe_ix (ix_tupE K) (pv 0) pe_int (fun _ _ => rfl)) pa_nil)) (pe_one (pe_callH h_is_numbers (hr.mono (by decide)) (by rfl) (pa_cons (pe_ix (ix_tupE K) (pv 0) pe_int (fun _ _ => rfl)) pa_nil))))))), ?_⟩
  walk_at "zz"
  rcases dd with ⟨n, t, ne, rfl⟩ | ⟨p, xs, rfl, hp, dd⟩
  · refine z_isi t.x (t.noTup ne) ?_
    walk_at "zz"
    exact q _ (Kc.refl hT)
  refine z_isi (n := "tuple") (k := true) (.base (.tup hp)) (by decide +kernel) ?_
  walk_at "zz"
  refine z_lenT hp ?_
  walk_at "zz"
  rcases dd with ⟨ne, rfl⟩ | ⟨x, y, k1, k2, rfl, h1, h2, rfl⟩
  · rw [decide_eq_false (show ¬ (xs.length : Int) = 2 by omega)]
    walk_at "zz"
    exact q _ (Kc.refl hT)
  rw [decide_eq_true (show (([x, y] : List V).length : Int) = 2 by rfl)]
  walk_at "zz"
  refine z_ixT (SqT.of hp) rfl ?_
  walk_at "zz"
  refine nm_sp h1 (hT _ i1) (fun H2 T2 => ?_)
  have c2 := Kc.of_tab hT i1 T2
  cases k1 with
  | false =>
    walk_at "zz"
    exact q _ c2
  | true =>
    walk_at "zz"
    refine z_ixT (SqT.of (c2.kp.tup hp)) rfl ?_
    walk_at "zz"
    exact nu_sp (h2.kp c2.kp) (c2.tg _ i2) fun H3 T3 => q _ (c2.trans (Kc.of_tab c2.tg i2 T3))
/-- is_tie's answer -/
def TiV (H : Hp) (v : V) (k : Bool) : Prop := (∃ n, TyV H v n ∧ n ≠ "tuple" ∧ k = false) ∨ ∃ p xs, v = .ref p ∧ H p = some (.tup xs) ∧ ((xs.length ≠ 2 ∧ k = false) ∨ ∃ x y, xs = [x, y] ∧ UnV H x y k)
theorem TiV.kp {H H' : Hp} {v : V} {k : Bool} (h : TiV H v k) (a : Kp H H') : TiV H' v k := by
  rcases h with ⟨n, t, r⟩ | ⟨p, xs, e, hp, r | ⟨x, y, ex, h1⟩⟩
  · exact .inl ⟨n, t.kp a, r⟩
  · exact .inr ⟨p, xs, e, a.tup hp, .inl r⟩
  · exact .inr ⟨p, xs, e, a.tup hp, .inr ⟨x, y, ex, h1.kp a⟩⟩
def spTie (Ps : List Addr) : Sp := fun vs H Q _ => ∃ v k, vs = [v] ∧ TiV H v k ∧ TGs H Ps ∧ ∀ H2, Kc Ps H H2 → Q (.bl k) H2
theorem ok_is_tie {f P1 : Addr} {Ps : List Addr} {fd : FuncData} (F : FnP K "is_tie" s_is_tie f fd) (i1 : P1 ∈ Ps) (m_isinstance : mg "isinstance" = none) (m_tuple : mg "tuple" = none) (m_len : mg "len" = none)
    (h_are_unlike_names : Has P w K mg base 6 "are_unlike_names" ["one", "other"] (spUnlike P1)) : FnOk P w K mg base CX0 7 f fd ["thing"] (spTie Ps) := by
  refine F.ok sc_is_tie (fun vs H Q E h => ?_) (fun cdv A outer s H vs Q E hr h => ?_)
  · obtain ⟨v, k, rfl, _⟩ := h; rfl
  obtain ⟨v, k, rfl, dd, hT, q⟩ := h
  refine ⟨_, PSs.nox (pss_cons (ps_if (PW.pt (pw_or (pt_not (pt_val (pe_callB (call_isiE K) (by rfl) m_isinstance (by decide +kernel) (pa_cons (pv 0) (pa_cons (pe_bltn (v := .ty "tuple") (by rfl) m_tuple (by decide +kernel) rfl) pa_nil))))) (pw_or1 (pt_cmpR op_ne (pe_callB (call_lenE K) (by rfl) m_len (by decide +kernel) (pa_cons (pv 0) pa_nil)) pe_int (nomark _)))))
    (pss_one (ps_ret pe_bl))
    pss_nil)
  (pss_one (ps_ret (pe_callH h_are_unlike_names (hr.mono (by decide)) (by rfl) (pa_cons (pe_ix (ix_tupE K) (pv 0) pe_int (fun _ _ => rfl)) (pa_cons (pe_ix (ix_tupE K) (pv 0) pe_int (fun _ _ => rfl)) pa_nil)))))), ?_⟩
  walk_at "zz"
  rcases dd with ⟨n, t, ne, rfl⟩ | ⟨p, xs, rfl, hp, dd⟩
  · refine z_isi t.x (t.noTup ne) ?_
    walk_at "zz"
    exact q _ (Kc.refl hT)
  refine z_isi (n := "tuple") (k := true) (.base (.tup hp)) (by decide +kernel) ?_
  walk_at "zz"
  refine z_lenT hp ?_
  walk_at "zz"
  rcases dd with ⟨ne, rfl⟩ | ⟨x, y, rfl, hu⟩
  · rw [decide_eq_false (show ¬ (xs.length : Int) = 2 by omega)]
    walk_at "zz"
    exact q _ (Kc.refl hT)
  rw [decide_eq_true (show (([x, y] : List V).length : Int) = 2 by rfl)]
  walk_at "zz"
  refine z_ixT (SqT.of hp) rfl ?_
  walk_at "zz"
  refine z_ixT (SqT.of hp) rfl ?_
  walk_at "zz"
  exact ⟨x, y, k, rfl, hu, hT _ i1, fun H2 T2 => q _ (Kc.of_tab hT i1 T2)⟩
/-- a list of hands, as it stands -/
abbrev HandR := Addr × Str × Addr × List Int
structure Hands (H : Hp) (h : Addr) (L : List HandR) : Prop where
  lst : H h = some (.lst (L.map fun m => .ref m.1))
  tup : ∀ m ∈ L, H m.1 = some (.tup [.str m.2.1, .ref m.2.2.1])
  num : ∀ m ∈ L, H m.2.2.1 = some (.tup (m.2.2.2.map V.int))
theorem Hands.kp {H H' : Hp} {h : Addr} {L : List HandR} (a : Hands H h L) (k : Kp H H') : Hands H' h L := ⟨k.lst a.lst, fun m hm => k.tup (a.tup m hm), fun m hm => k.tup (a.num m hm)⟩
/-- right hands, each by itself -/
structure HandsV (L : List HandR) : Prop where
  one : 1 ≤ L.length
  few : L.length ≤ 8
  nm : ∀ m ∈ L, nmB m.2.1 = true
  len : ∀ m ∈ L, 1 ≤ m.2.2.2.length ∧ m.2.2.2.length ≤ 3
  far : ∀ m ∈ L, ∀ x ∈ m.2.2.2, inFar x = true
/-- right hands -/
structure HandsOk (L : List HandR) (n : Nat) : Prop where
  one : 1 ≤ L.length
  few : L.length ≤ 8
  n1 : 1 ≤ n
  n3 : n ≤ 3
  nm : ∀ m ∈ L, nmB m.2.1 = true
  len : ∀ m ∈ L, m.2.2.2.length = n
  far : ∀ m ∈ L, ∀ x ∈ m.2.2.2, inFar x = true
  nd : (L.map fun m => m.2.1).Nodup
theorem HandsOk.v {L : List HandR} {n : Nat} (h : HandsOk L n) : HandsV L := ⟨h.one, h.few, h.nm, fun m hm => by have := h.n1; have := h.n3; rw [h.len m hm]; omega, h.far⟩
abbrev nmsOf (L : List HandR) : List Str := L.map fun m => m.2.1
/-- right hands together -/
def HandsT (L : List HandR) : Prop := (nmsOf L).Nodup ∧ ∀ m ∈ L, ∀ m' ∈ L, m.2.2.2.length = m'.2.2.2.length
theorem HandsOk.t {L : List HandR} {n : Nat} (h : HandsOk L n) : HandsT L := ⟨h.nd, fun m hm m' hm' => by rw [h.len m hm, h.len m' hm']⟩
theorem not_in_take {α : Type} {l : List α} (nd : l.Nodup) {i : Nat} {x : α} (h : l[i]? = some x) : x ∉ l.take i := fun hx => by
  obtain ⟨j, hj, e⟩ := List.getElem_of_mem hx
  rw [List.length_take] at hj
  obtain ⟨hi, e2⟩ := List.getElem?_eq_some_iff.mp h
  rw [List.getElem_take] at e
  have := List.pairwise_iff_getElem.mp nd j i (by omega) hi (by omega)
  exact this (e.trans e2.symm)
theorem hands_at {L : List HandR} {i : Nat} {v : V} (h : (L.map fun m => V.ref m.1)[i]? = some v) : ∃ m, L[i]? = some m ∧ m ∈ L ∧ v = .ref m.1 := by
  rw [List.getElem?_map] at h
  obtain ⟨m, hm, e⟩ := Option.map_eq_some_iff.mp h
  exact ⟨m, hm, List.mem_of_getElem? hm, e.symm⟩
theorem mem_take_succ {α : Type} {l : List α} {i : Nat} {x y : α} (h : l[i]? = some x) : y ∈ l.take (i + 1) ↔ y ∈ l.take i ∨ y = x := by
  rw [List.take_add_one, h]
  simp
theorem nd_take {α : Type} {l : List α} {i : Nat} {x : α} (h : l[i]? = some x) : (l.take (i + 1)).Nodup ↔ (l.take i).Nodup ∧ x ∉ l.take i := by
  rw [List.take_add_one, h]
  show (l.take i ++ [x]).Nodup ↔ _
  rw [List.nodup_append]
  constructor
  · rintro ⟨a, _, c⟩
    exact ⟨a, fun hx => c x hx x (by simp) rfl⟩
  · rintro ⟨a, b⟩
    exact ⟨a, by simp, fun y hy z hz e => b (by rw [List.mem_singleton.mp hz] at e; exact e ▸ hy)⟩
/-- things that are no right hands: what they are, or that one of them is no hand -/
def HandsBad (H : Hp) (v : V) : Prop := (∃ n, TyV H v n ∧ n ≠ "list") ∨ ∃ h xs, v = .ref h ∧ H h = some (.lst xs) ∧ (xs.length = 0 ∨ 8 < xs.length ∨ ∃ ks : List Bool, ks.length = xs.length ∧ (∀ (i : Nat) (x : V) (k : Bool), xs[i]? = some x → ks[i]? = some k → HdV H x k) ∧ ks.all id = false)
def spHandsX (Ps : List Addr) (CB : Addr) : Sp := fun vs H Q E => ∃ v, vs = [v] ∧ TGs H Ps ∧
  ((HandsBad H v ∧ ∀ H2, Kc Ps H H2 → E (.ref CB) none H2) ∨
   ∃ h L, v = .ref h ∧ Hands H h L ∧ HandsV L ∧ (HandsT L → ∀ H2, Kc Ps H H2 → Q .non H2) ∧ (¬ HandsT L → ∀ H2, Kc Ps H H2 → E (.ref CB) none H2))
theorem hd_true {H : Hp} {m : HandR} (t : H m.1 = some (.tup [.str m.2.1, .ref m.2.2.1])) (n : H m.2.2.1 = some (.tup (m.2.2.2.map V.int))) (nm : nmB m.2.1 = true) (l : 1 ≤ m.2.2.2.length ∧ m.2.2.2.length ≤ 3) (far : ∀ x ∈ m.2.2.2, inFar x = true) : HdV H (.ref m.1) true :=
  .inr ⟨m.1, _, rfl, t, .inr ⟨_, _, true, true, rfl, .of_nm nm, nu_ints n l.1 l.2 far, rfl⟩⟩
theorem ok_check_hands {f ca Pt CB : Addr} {Ps : List Addr} {fd : FuncData} {t1 : Tok} (F : FnP K "check_hands" s_check_hands f fd) (hcd : fd.code = .ref ca) (TB : GxR.TabB base mg ca Pt) (iP : Pt ∈ Ps) (e_BadWeb : ErrC K CB) (g_BadWeb : mg "BadWeb" = some (.ref CB)) (m_isinstance : mg "isinstance" = none) (m_list : mg "list" = none) (m_len : mg "len" = none) (m_all : mg "all" = none) (c_MOST_HANDS : mg "MOST_HANDS" = some (.int 8 t1))
    (h_is_hand : Has P w K mg base 8 "is_hand" ["thing"] (spHand Ps)) : FnOk P w K mg base (L2.CX P w) 13 f fd ["hands"] (spHandsX Ps CB) := by
  refine okCX F sc_check_hands (fun vs H Q E h => ?_) (fun A outer s H vs Q E hr h => ?_)
  · obtain ⟨v, rfl, _⟩ := h; rfl
  obtain ⟨v, rfl, hT, h⟩ := h
  refine ⟨_, (pss_cons (ps_if (PW.pt (pw_or (pt_not (pt_val (pe_callB (call_isiE K) (by rfl) m_isinstance (by decide +kernel) (pa_cons (pv 0) (pa_cons (pe_bltn (v := .ty "list") (by rfl) m_list (by decide +kernel) rfl) pa_nil))))) (pw_or1 (pt_not (pt_chain op_le op_le pe_int (pe_callB (call_lenE K) (by rfl) m_len (by decide +kernel) (pa_cons (pv 0) pa_nil)) (pe_glob (v := .int 8) (by rfl) c_MOST_HANDS ⟨_, rfl⟩))))))
    (pss_one (ps_raise rfl (takes_of rfl rfl rfl rfl) (pmk_err e_BadWeb g_BadWeb (by rfl))))
    pss_nil)
  (pss_cons (ps_if (pt_not (pt_val (pe_all (k := 8) (own := [("hand", 1)]) (g := gName 1) (hr.mono (by decide)) (by rfl) m_all TB hcd (by rfl) sc_check_hands.nd (pi_listE K (pv 0)) (blkOk_by (own := [("hand", 1)]) (N := ["hands", "hand", "name", "numbers"]) (sc := defScope s_check_hands) (by decide +kernel)) ⟨rfl, by decide +kernel, rfl⟩ (fun _ _ _ _ _ _ _ hr => (pg_name (i := 1) sc_check_hands.nd rfl (.inl rfl))) (fun _ _ _ _ _ _ _ hr => pts_nil) (fun _ _ _ _ _ _ _ hr => (pe_callH h_is_hand (hr.mono (by decide)) (by rfl) (pa_cons (pv 1) pa_nil))) (fun _ => rfl))))
    (pss_one (ps_raise rfl (takes_of rfl rfl rfl rfl) (pmk_err e_BadWeb g_BadWeb (by rfl))))
    pss_nil)
  (pss_cons (ps_if (pt_cmpR op_ne (pe_callB call_lenSK (by rfl) m_len (by decide +kernel) (pa_cons (pe_scG (SO := fun D => SetK P w D (fun _ => false) 0) (r := rSAddK P w) starts_K (own := [("name", 2), ("numbers", 3)]) (g := (gTup K 2 (gCons (gName 2) (gCons (gName 3) gNil)))) (by rfl) sc_check_hands.nd (pi_listE K (pv 0)) (blkOk_by (own := [("name", 2), ("numbers", 3)]) (N := ["hands", "hand", "name", "numbers"]) (sc := defScope s_check_hands) (by decide +kernel)) (fun _ _ _ _ _ => (pg_tup rfl (pgs_cons (pg_name (i := 2) sc_check_hands.nd rfl (.inl rfl)) (pgs_cons (pg_name (i := 3) sc_check_hands.nd rfl (.inl rfl)) pgs_nil)))) (fun _ _ _ _ _ => pts_nil) (fun _ _ _ _ _ => (pv 2)) (fun _ _ _ _ _ => mt_saddK)) pa_nil)) (pe_callB (call_lenE K) (by rfl) m_len (by decide +kernel) (pa_cons (pv 0) pa_nil)) (nomark _))
    (pss_one (ps_raise rfl (takes_of rfl rfl rfl rfl) (pmk_err e_BadWeb g_BadWeb (by rfl))))
    pss_nil)
  (pss_one (ps_if (pt_cmpR op_ne (pe_callB call_lenSK (by rfl) m_len (by decide +kernel) (pa_cons (pe_scG (SO := fun D => SetK P w D (fun _ => false) 0) (r := rSAddK P w) starts_K (own := [("name", 2), ("numbers", 3)]) (g := (gTup K 2 (gCons (gName 2) (gCons (gName 3) gNil)))) (by rfl) sc_check_hands.nd (pi_listE K (pv 0)) (blkOk_by (own := [("name", 2), ("numbers", 3)]) (N := ["hands", "hand", "name", "numbers"]) (sc := defScope s_check_hands) (by decide +kernel)) (fun _ _ _ _ _ => (pg_tup rfl (pgs_cons (pg_name (i := 2) sc_check_hands.nd rfl (.inl rfl)) (pgs_cons (pg_name (i := 3) sc_check_hands.nd rfl (.inl rfl)) pgs_nil)))) (fun _ _ _ _ _ => pts_nil) (fun _ _ _ _ _ => (pe_callB (call_lenE K) (by rfl) m_len (by decide +kernel) (pa_cons (pv 3) pa_nil))) (fun _ _ _ _ _ => mt_saddK)) pa_nil)) pe_int (nomark _))
    (pss_one (ps_raise rfl (takes_of rfl rfl rfl rfl) (pmk_err e_BadWeb g_BadWeb (by rfl))))
    pss_nil))))), ?_⟩
  walk_at "zz"
  rcases h with ⟨⟨n, ty, ne⟩ | ⟨h, xs, rfl, hl, bad⟩, q⟩ | ⟨h, L, rfl, hh, ok, q, qe⟩
  · refine z_isi ty.x (ty.noLst ne) ?_
    walk_at "zz"
    exact q H (Kc.refl hT)
  · refine z_isi (n := "list") (k := true) (.base (.lst hl)) (by decide +kernel) ?_
    walk_at "zz"
    refine z_lenL (SqL.of hl) ?_
    walk_at "zz"
    by_cases h1 : 1 ≤ xs.length
    · rw [decide_eq_true (show (1 : Int) ≤ (xs.length : Int) by omega)]
      walk_at "zz"
      by_cases h8 : xs.length ≤ 8
      · rw [decide_eq_true (show (xs.length : Int) ≤ 8 by omega)]
        obtain ⟨ks, lk, hk, al⟩ : ∃ ks : List Bool, ks.length = xs.length ∧ (∀ (i : Nat) (x : V) (k : Bool), xs[i]? = some x → ks[i]? = some k → HdV H x k) ∧ ks.all id = false := by
          rcases bad with b | b | b
          · omega
          · omega
          · exact b
        walk_at "zz"
        refine ⟨_, rfl, h, rfl, ⟨_, SqL.of hl⟩, hT _ iP, fun H2 T2 => ?_⟩
        have c2 := Kc.of_tab hT iP T2
        refine all_kc (Ps := Ps) (J := Itl K h) xs.length (fun i => (ks[i]?).getD false) c2.tg (fun i H3 hi k3 => ⟨_, _, SqL.of ((c2.trans k3).kp.lst hl), List.getElem?_eq_getElem hi⟩) (fun H3 k3 => ⟨_, SqL.of ((c2.trans k3).kp.lst hl), Nat.le_refl _⟩) (fun i x H3 H3' hi k3 hy Q' B hq => ?_) (fun ha H3 k3 => ?_) (fun i hi hf H3 k3 => ?_)
        · obtain ⟨rfl, hx⟩ := hy
          have c3 := c2.trans k3
          have hx' := hx _ (SqL.of (c3.kp.lst hl))
          have hki : ks[i]? = some (ks[i]'(by omega)) := List.getElem?_eq_getElem (by omega)
          rw [hki] at hq
          refine ⟨rfl, ?_⟩
          walk_at "zz"
          exact ⟨_, _, rfl, (hk i x _ hx' hki).kp c3.kp, c3.tg, hq⟩
        · exfalso
          have : ks.all id = true := by
            rw [List.all_eq_true]
            intro k hk'
            obtain ⟨j, hj, ej⟩ := List.getElem_of_mem hk'
            have := ha j (by omega)
            rw [List.getElem?_eq_getElem hj, ej] at this
            exact this
          rw [al] at this
          cases this
        · walk_at "zz"
          exact q _ (c2.trans k3)
      · rw [decide_eq_false (show ¬ (xs.length : Int) ≤ 8 by omega)]
        walk_at "zz"
        exact q H (Kc.refl hT)
    · rw [decide_eq_false (show ¬ (1 : Int) ≤ (xs.length : Int) by omega)]
      walk_at "zz"
      exact q H (Kc.refl hT)
  · have ll : (L.map fun m => V.ref m.1).length = L.length := List.length_map ..
    have o1 := ok.one
    have o8 := ok.few
    refine z_isi (n := "list") (k := true) (.base (.lst hh.lst)) (by decide +kernel) ?_
    walk_at "zz"
    refine z_lenL (SqL.of hh.lst) ?_
    walk_at "zz"
    rw [ll, decide_eq_true (show (1 : Int) ≤ (L.length : Int) by omega)]
    walk_at "zz"
    rw [decide_eq_true (show (L.length : Int) ≤ 8 by omega)]
    walk_at "zz"
    refine ⟨_, rfl, h, rfl, ⟨_, SqL.of hh.lst⟩, hT _ iP, fun H2 T2 => ?_⟩
    have c2 := Kc.of_tab hT iP T2
    refine all_kc (Ps := Ps) (J := Itl K h) L.length (fun _ => true) c2.tg (fun i H3 hi k3 => ⟨_, _, SqL.of ((c2.trans k3).kp.lst hh.lst), List.getElem?_eq_getElem (by rw [ll]; exact hi)⟩) (fun H3 k3 => ⟨_, SqL.of ((c2.trans k3).kp.lst hh.lst), by rw [ll]; exact Nat.le_refl _⟩) (fun i x H3 H3' hi k3 hy Q' B hq => ?_) (fun _ H3 k3 => ?_) (fun i hi z => by cases z)
    · obtain ⟨rfl, hx⟩ := hy
      have c3 := c2.trans k3
      obtain ⟨m, hm, mem, rfl⟩ := hands_at (hx _ (SqL.of (c3.kp.lst hh.lst)))
      have h3 := hh.kp c3.kp
      refine ⟨rfl, ?_⟩
      walk_at "zz"
      exact ⟨_, true, rfl, hd_true (h3.tup m mem) (h3.num m mem) (ok.nm m mem) (ok.len m mem) (ok.far m mem), c3.tg, hq⟩
    · have c3 := c2.trans k3
      have h3 := hh.kp c3.kp
      walk_at "zz"
      refine z_scG ?_
      walk_at "zz"
      refine ⟨h, rfl, ⟨_, SqL.of h3.lst⟩, fun D nD => sc_list (SO := fun D => SetK P w D (fun _ => false) 0) (r := rSAddK P w) (fun i H' => Same H3 H' ∧ ∃ S n, H' D = some (SetK P w D S n) ∧ n ≤ i ∧ (n = i ↔ ((nmsOf L).take i).Nodup) ∧ ∀ k, S k = true ↔ k ∈ ((nmsOf L).take i).map Sum.inr) ⟨same_upd nD, fun _ => false, 0, upd_same, Nat.le_refl _, by simp, fun k => by simp⟩ (fun i H' _ hp => SqL.of (hp.1 _ _ h3.lst)) ?_ ?_⟩
      · rintro i x H4 hx ⟨e4, S, n, hS, ni, nd, mS⟩
        obtain ⟨m, hm, mem, rfl⟩ := hands_at hx
        have zi : (nmsOf L)[i]? = some m.2.1 := by rw [List.getElem?_map, hm]; rfl
        have il : i < L.length := (List.getElem?_eq_some_iff.mp hm).1
        walk_at "zz"
        refine z_gTup (SqT.of (e4 _ _ (h3.tup m mem))) rfl ?_
        walk_at "zz"
        refine ⟨rfl, ?_⟩
        walk_at "zz"
        have key : S (.inr m.2.1) = true ↔ m.2.1 ∈ (nmsOf L).take i := by
          rw [mS, List.mem_map]
          exact ⟨fun ⟨y, hy, ey⟩ => by cases ey; exact hy, fun hy => ⟨_, hy, rfl⟩⟩
        refine z_addK (k := .inr m.2.1) hS (by omega) fun H5 S' n' k5 h5 m5 n5 => ⟨fun b o hb => k5 b o (ne_of_none hb nD) (e4 b o hb), S', n', h5, ?_, ?_, fun k => ?_⟩
        · rw [n5]; split <;> omega
        · rw [nd_take zi, n5]
          by_cases hs : S (.inr m.2.1) = true
          · rw [if_pos hs]
            exact ⟨fun z => by omega, fun z => absurd (key.mp hs) z.2⟩
          · rw [if_neg hs]
            exact ⟨fun z => ⟨nd.mp (by omega), fun hm => hs (key.mpr hm)⟩, fun z => by have := nd.mpr z.1; omega⟩
        · rw [m5, Bool.or_eq_true, decide_eq_true_eq, mS, List.mem_map, List.mem_map]
          constructor
          · rintro (⟨y, hy, rfl⟩ | rfl)
            · exact ⟨y, (mem_take_succ zi).mpr (.inl hy), rfl⟩
            · exact ⟨_, (mem_take_succ zi).mpr (.inr rfl), rfl⟩
          · rintro ⟨y, hy, rfl⟩
            rcases (mem_take_succ zi).mp hy with z | z
            · exact .inl ⟨y, z, rfl⟩
            · exact .inr (by rw [z])
      · rintro H4 ⟨e4, S, n, hS, ni, nd, mS⟩
        rw [ll] at ni nd
        rw [List.take_of_length_le (by rw [List.length_map]; exact Nat.le_refl _)] at nd
        have c4 := c3.trans (Kc.of_same c3.tg e4)
        have h4 := hh.kp c4.kp
        walk_at "zz"
        refine ⟨D, S, _, rfl, hS, ?_⟩
        walk_at "zz"
        refine z_lenL (SqL.of h4.lst) ?_
        walk_at "zz"
        rw [ll]
        by_cases hnd : n = L.length
        · rw [decide_eq_true (show (n : Int) = (L.length : Int) by omega)]
          have nodup := nd.mp hnd
          obtain ⟨m0, hm0⟩ : ∃ m0, L[0]? = some m0 := ⟨_, List.getElem?_eq_getElem (by omega)⟩
          walk_at "zz"
          refine z_scG ?_
          walk_at "zz"
          refine ⟨h, rfl, ⟨_, SqL.of h4.lst⟩, fun D2 nD2 => sc_list (SO := fun D => SetK P w D (fun _ => false) 0) (r := rSAddK P w) (fun i H' => Same H4 H' ∧ ∃ S n, H' D2 = some (SetK P w D2 S n) ∧ n ≤ i ∧ (1 ≤ i → 1 ≤ n) ∧ (1 ≤ i → (n = 1 ↔ ∀ m ∈ L.take i, m.2.2.2.length = m0.2.2.2.length)) ∧ ∀ k, S k = true ↔ ∃ m ∈ L.take i, k = .inl (m.2.2.2.length : Int)) ⟨same_upd nD2, fun _ => false, 0, upd_same, Nat.le_refl _, fun z => by omega, fun z => by omega, fun k => by simp⟩ (fun i H' _ hp => SqL.of (hp.1 _ _ h4.lst)) ?_ ?_⟩
          · rintro i x H5 hx ⟨e5, S, n, hS, ni, n1, al, mS⟩
            obtain ⟨m, hm, mem, rfl⟩ := hands_at hx
            have il : i < L.length := (List.getElem?_eq_some_iff.mp hm).1
            walk_at "zz"
            refine z_gTup (SqT.of (e5 _ _ (h4.tup m mem))) rfl ?_
            walk_at "zz"
            refine ⟨rfl, ?_⟩
            walk_at "zz"
            refine z_lenT (e5 _ _ (h4.num m mem)) ?_
            rw [List.length_map]
            have m0i : 1 ≤ i → m0 ∈ L.take i := fun hi => by
              have : (L.take i)[0]? = some m0 := by rw [List.getElem?_take, if_pos (by omega)]; exact hm0
              exact List.mem_of_getElem? this
            refine z_addK (k := .inl (m.2.2.2.length : Int)) hS (by omega) fun H6 S' n' k6 h6 m6 n6 => ⟨fun b o hb => k6 b o (ne_of_none hb nD2) (e5 b o hb), S', n', h6, ?_, fun _ => ?_, fun _ => ?_, fun k => ?_⟩
            · rw [n6]; split <;> omega
            · rw [n6]
              by_cases hs : S (.inl (m.2.2.2.length : Int)) = true
              · rw [if_pos hs]
                obtain ⟨u, hu, _⟩ := (mS _).mp hs
                have : 1 ≤ i := by
                  cases i with
                  | zero => simp at hu
                  | succ i => omega
                exact n1 this
              · rw [if_neg hs]; omega
            · have step : (∀ u ∈ L.take (i + 1), u.2.2.2.length = m0.2.2.2.length) ↔ (∀ u ∈ L.take i, u.2.2.2.length = m0.2.2.2.length) ∧ m.2.2.2.length = m0.2.2.2.length :=
                ⟨fun z => ⟨fun u hu => z u ((mem_take_succ hm).mpr (.inl hu)), z m ((mem_take_succ hm).mpr (.inr rfl))⟩, fun z u hu => by
                  rcases (mem_take_succ hm).mp hu with hu | rfl
                  · exact z.1 u hu
                  · exact z.2⟩
              rw [step, n6]
              by_cases hs : S (.inl (m.2.2.2.length : Int)) = true
              · rw [if_pos hs]
                obtain ⟨u, hu, eu⟩ := (mS _).mp hs
                have i1 : 1 ≤ i := by
                  cases i with
                  | zero => simp at hu
                  | succ i => omega
                have eu' : (m.2.2.2.length : Int) = (u.2.2.2.length : Int) := Sum.inl.inj eu
                rw [al i1]
                exact ⟨fun z => ⟨z, by have := z u hu; omega⟩, fun z => z.1⟩
              · rw [if_neg hs]
                rcases Nat.eq_zero_or_pos i with i0 | i1
                · subst i0
                  have em : m = m0 := by rw [hm] at hm0; exact Option.some.inj hm0
                  subst em
                  exact ⟨fun _ => ⟨fun u hu => by simp at hu, rfl⟩, fun _ => by omega⟩
                · have := n1 i1
                  refine ⟨fun z => by omega, fun z => absurd ?_ hs⟩
                  exact (mS _).mpr ⟨m0, m0i i1, by rw [z.2]⟩
            · rw [m6, Bool.or_eq_true, decide_eq_true_eq, mS]
              constructor
              · rintro (⟨u, hu, e⟩ | e)
                · exact ⟨u, (mem_take_succ hm).mpr (.inl hu), e⟩
                · exact ⟨m, (mem_take_succ hm).mpr (.inr rfl), e⟩
              · rintro ⟨u, hu, e⟩
                rcases (mem_take_succ hm).mp hu with hu | rfl
                · exact .inl ⟨u, hu, e⟩
                · exact .inr e
          · rintro H5 ⟨e5, S, n', hS, ni', n1, al, mS⟩
            rw [ll] at al n1
            rw [List.take_of_length_le (Nat.le_refl _)] at al
            have c5 := c4.trans (Kc.of_same c4.tg e5)
            have al' := al o1
            have m0m := List.mem_of_getElem? hm0
            walk_at "zz"
            refine ⟨D2, S, _, rfl, hS, ?_⟩
            walk_at "zz"
            by_cases h1 : n' = 1
            · rw [decide_eq_true (show (n' : Int) = 1 by omega)]
              walk_at "zz"
              exact q ⟨nodup, fun m hm m' hm' => by rw [al'.mp h1 m hm, al'.mp h1 m' hm']⟩ _ c5
            · rw [decide_eq_false (show ¬ (n' : Int) = 1 by omega)]
              walk_at "zz"
              exact qe (fun z => h1 (al'.mpr fun m hm => z.2 m hm m0 m0m)) _ c5
        · rw [decide_eq_false (show ¬ (n : Int) = (L.length : Int) by omega)]
          walk_at "zz"
          exact qe (fun z => hnd (nd.mpr z.1)) _ c4
theorem inV_str (z : Str) : ∀ zs : List Str, inV (.str z) (zs.map V.str) = decide (z ∈ zs)
  | [] => rfl
  | y :: zs => by
    have ih := inV_str z zs
    unfold inV at ih ⊢
    rw [List.map_cons, List.any_cons, ih]
    have e : eqV (.str y) (.str z) = decide (z = y) := by
      by_cases h : z = y
      · rw [h]; simp [eqV]
      · rw [decide_eq_false h]
        simp [eqV]
        exact fun q => h q.symm
    rw [e]
    by_cases h : z = y <;> simp [h]
theorem z_inS {H : Hp} {Q : VK} {p : Addr} {zs : List Str} {z : Str} (h : H p = some (.lst (zs.map V.str))) (q : Q (.bl (decide (z ∈ zs))) H) : rIn K false (.str z) (.ref p) H Q :=
  ⟨p, _, rfl, .inl (SqL.of h), rfl, by rw [List.all_eq_true]; intro x hx; obtain ⟨y, _, rfl⟩ := List.mem_map.mp hx; rfl, by
    rw [show (if false = true then !inV (V.str z) (zs.map V.str) else inV (V.str z) (zs.map V.str)) = decide (z ∈ zs) from inV_str z zs]
    exact q⟩
/-- a list of ties, as it stands -/
abbrev TieR := Addr × Str × Str
structure Ties (H : Hp) (t : Addr) (T : List TieR) : Prop where
  lst : H t = some (.lst (T.map fun m => .ref m.1))
  tup : ∀ m ∈ T, H m.1 = some (.tup [.str m.2.1, .str m.2.2])
theorem Ties.kp {H H' : Hp} {t : Addr} {T : List TieR} (a : Ties H t T) (k : Kp H H') : Ties H' t T := ⟨k.lst a.lst, fun m hm => k.tup (a.tup m hm)⟩
def lowS (x y : Str) : Str := if sLt y x = true then y else x
def topS2 (x y : Str) : Str := if sLt x y = true then y else x
def tk2 (x y : Str) : TKey := [.inr (lowS x y), .inr (topS2 x y)]
abbrev tks (T : List TieR) : List TKey := T.map fun m => tk2 m.2.1 m.2.2
structure TiesOk (zs : List Str) (T : List TieR) : Prop where
  few : T.length < 58
  nm : ∀ m ∈ T, nmB m.2.1 = true ∧ nmB m.2.2 = true ∧ m.2.1 ≠ m.2.2
  mem : ∀ m ∈ T, m.2.1 ∈ zs ∧ m.2.2 ∈ zs
  nd : (T.map fun m => tk2 m.2.1 m.2.2).Nodup
/-- right ties, each by itself -/
structure TiesV (T : List TieR) : Prop where
  few : T.length < 60
  nm : ∀ m ∈ T, nmB m.2.1 = true ∧ nmB m.2.2 = true ∧ m.2.1 ≠ m.2.2
/-- right ties together, between hands of these names -/
def TiesT (zs : List Str) (T : List TieR) : Prop := (∀ m ∈ T, m.2.1 ∈ zs ∧ m.2.2 ∈ zs) ∧ (tks T).Nodup
theorem TiesOk.v {zs : List Str} {T : List TieR} (h : TiesOk zs T) : TiesV T := ⟨by have := h.few; omega, h.nm⟩
theorem TiesOk.t {zs : List Str} {T : List TieR} (h : TiesOk zs T) : TiesT zs T := ⟨h.mem, h.nd⟩
theorem ties_at {T : List TieR} {i : Nat} {v : V} (h : (T.map fun m => V.ref m.1)[i]? = some v) : ∃ m, T[i]? = some m ∧ m ∈ T ∧ v = .ref m.1 := by
  rw [List.getElem?_map] at h
  obtain ⟨m, hm, e⟩ := Option.map_eq_some_iff.mp h
  exact ⟨m, hm, List.mem_of_getElem? hm, e.symm⟩
/-- things that are no right ties -/
def TiesBad (H : Hp) (v : V) : Prop := (∃ n, TyV H v n ∧ n ≠ "list") ∨ ∃ t xs, v = .ref t ∧ H t = some (.lst xs) ∧ ∃ ks : List Bool, ks.length = xs.length ∧ (∀ (i : Nat) (x : V) (k : Bool), xs[i]? = some x → ks[i]? = some k → TiV H x k) ∧ ks.all id = false
def spTiesX (Ps : List Addr) (CB : Addr) : Sp := fun vs H Q E => ∃ v nl zs, vs = [v, .ref nl] ∧ H nl = some (.lst (zs.map V.str)) ∧ TGs H Ps ∧
  ((TiesBad H v ∧ ∀ H2, Kc Ps H H2 → E (.ref CB) none H2) ∨
   ∃ t T, v = .ref t ∧ Ties H t T ∧ TiesV T ∧ (TiesT zs T → ∀ H2, Kc Ps H H2 → Q .non H2) ∧ (¬ TiesT zs T → ∀ H2, Kc Ps H H2 → E (.ref CB) none H2))
theorem ti_true {H : Hp} {m : TieR} (t : H m.1 = some (.tup [.str m.2.1, .str m.2.2])) (n : nmB m.2.1 = true ∧ nmB m.2.2 = true ∧ m.2.1 ≠ m.2.2) : TiV H (.ref m.1) true :=
  .inr ⟨m.1, _, rfl, t, .inr ⟨_, _, rfl, true, true, .of_nm n.1, .of_nm n.2.1, .inr ⟨_, _, rfl, rfl, rfl, rfl, by rw [decide_eq_false n.2.2]; rfl⟩⟩⟩
theorem ok_check_ties {f ca Pt CB : Addr} {Ps : List Addr} {fd : FuncData} (F : FnP K "check_ties" s_check_ties f fd) (hcd : fd.code = .ref ca) (TB : GxR.TabB base mg ca Pt) (iP : Pt ∈ Ps) (e_BadWeb : ErrC K CB) (g_BadWeb : mg "BadWeb" = some (.ref CB)) (m_isinstance : mg "isinstance" = none) (m_list : mg "list" = none) (m_len : mg "len" = none) (m_all : mg "all" = none) (m_min : mg "min" = none) (m_max : mg "max" = none)
    (h_is_tie : Has P w K mg base 7 "is_tie" ["thing"] (spTie Ps)) : FnOk P w K mg base (L2.CX P w) 12 f fd ["ties", "names"] (spTiesX Ps CB) := by
  refine okCX F sc_check_ties (fun vs H Q E h => ?_) (fun A outer s H vs Q E hr h => ?_)
  · obtain ⟨v, nl, zs, rfl, _⟩ := h; rfl
  obtain ⟨v, nl, zs, rfl, hn, hT, h⟩ := h
  refine ⟨_, (pss_cons (ps_if (pt_not (pt_val (pe_callB (call_isiE K) (by rfl) m_isinstance (by decide +kernel) (pa_cons (pv 0) (pa_cons (pe_bltn (v := .ty "list") (by rfl) m_list (by decide +kernel) rfl) pa_nil)))))
    (pss_one (ps_raise rfl (takes_of rfl rfl rfl rfl) (pmk_err e_BadWeb g_BadWeb (by rfl))))
    pss_nil)
  (pss_cons (ps_if (pt_not (pt_val (pe_all (k := 7) (own := [("tie", 2)]) (g := gName 2) (hr.mono (by decide)) (by rfl) m_all TB hcd (by rfl) sc_check_ties.nd (pi_listE K (pv 0)) (blkOk_by (own := [("tie", 2)]) (N := ["ties", "names", "tie", "one", "other"]) (sc := defScope s_check_ties) (by decide +kernel)) ⟨rfl, by decide +kernel, rfl⟩ (fun _ _ _ _ _ _ _ hr => (pg_name (i := 2) sc_check_ties.nd rfl (.inl rfl))) (fun _ _ _ _ _ _ _ hr => pts_nil) (fun _ _ _ _ _ _ _ hr => (pe_callH h_is_tie (hr.mono (by decide)) (by rfl) (pa_cons (pv 2) pa_nil))) (fun _ => rfl))))
    (pss_one (ps_raise rfl (takes_of rfl rfl rfl rfl) (pmk_err e_BadWeb g_BadWeb (by rfl))))
    pss_nil)
  (pss_cons (ps_if (pt_not (pt_val (pe_all (k := 7) (own := [("one", 3), ("other", 4)]) (g := gTup K 2 (gCons (gName 3) (gCons (gName 4) gNil))) (hr.mono (by decide)) (by rfl) m_all TB hcd (by rfl) sc_check_ties.nd (pi_listE K (pv 0)) (blkOk_by (own := [("one", 3), ("other", 4)]) (N := ["ties", "names", "tie", "one", "other"]) (sc := defScope s_check_ties) (by decide +kernel)) ⟨rfl, by decide +kernel, rfl⟩ (fun _ _ _ _ _ _ _ hr => (pg_tup rfl (pgs_cons (pg_name (i := 3) sc_check_ties.nd rfl (.inl rfl)) (pgs_cons (pg_name (i := 4) sc_check_ties.nd rfl (.inl rfl)) pgs_nil)))) (fun _ _ _ _ _ _ _ hr => pts_nil) (fun _ _ _ _ _ _ _ hr => (pe_and (pe_cmpR (op_inE K) (pv 3) (pv 1) (by rfl)) (pe_one (pe_cmpR (op_inE K) (pv 4) (pv 1) (by rfl))))) (fun _ => rfl))))
    (pss_one (ps_raise rfl (takes_of rfl rfl rfl rfl) (pmk_err e_BadWeb g_BadWeb (by rfl))))
    pss_nil)
  (pss_one (ps_if (pt_cmpR op_ne (pe_callB call_lenSP (by rfl) m_len (by decide +kernel) (pa_cons (pe_scG (SO := fun D => SetP P w D []) (r := rSAddP K P w) starts_P (own := [("one", 3), ("other", 4)]) (g := (gTup K 2 (gCons (gName 3) (gCons (gName 4) gNil)))) (by rfl) sc_check_ties.nd (pi_listE K (pv 0)) (blkOk_by (own := [("one", 3), ("other", 4)]) (N := ["ties", "names", "tie", "one", "other"]) (sc := defScope s_check_ties) (by decide +kernel)) (fun _ _ _ _ _ => (pg_tup rfl (pgs_cons (pg_name (i := 3) sc_check_ties.nd rfl (.inl rfl)) (pgs_cons (pg_name (i := 4) sc_check_ties.nd rfl (.inl rfl)) pgs_nil)))) (fun _ _ _ _ _ => pts_nil) (fun _ _ _ _ _ => (pe_tup (pa_cons (pe_callB (call_minS rfl) (by rfl) m_min (by decide +kernel) (pa_cons (pv 3) (pa_cons (pv 4) pa_nil))) (pa_cons (pe_callB (call_maxS rfl) (by rfl) m_max (by decide +kernel) (pa_cons (pv 3) (pa_cons (pv 4) pa_nil))) pa_nil)))) (fun _ _ _ _ _ => mt_saddP hr.units)) pa_nil)) (pe_callB (call_lenE K) (by rfl) m_len (by decide +kernel) (pa_cons (pv 0) pa_nil)) (nomark _))
    (pss_one (ps_raise rfl (takes_of rfl rfl rfl rfl) (pmk_err e_BadWeb g_BadWeb (by rfl))))
    pss_nil))))), ?_⟩
  walk_at "zz"
  rcases h with ⟨⟨n, ty, ne⟩ | ⟨t, xs, rfl, hl, ks, lk, hk, al⟩, q⟩ | ⟨t, T, rfl, ht, ok, q, qe⟩
  · refine z_isi ty.x (ty.noLst ne) ?_
    walk_at "zz"
    exact q H (Kc.refl hT)
  · refine z_isi (n := "list") (k := true) (.base (.lst hl)) (by decide +kernel) ?_
    walk_at "zz"
    refine ⟨_, rfl, t, rfl, ⟨_, SqL.of hl⟩, hT _ iP, fun H2 T2 => ?_⟩
    have c2 := Kc.of_tab hT iP T2
    refine all_kc (Ps := Ps) (J := Itl K t) xs.length (fun i => (ks[i]?).getD false) c2.tg (fun i H3 hi k3 => ⟨_, _, SqL.of ((c2.trans k3).kp.lst hl), List.getElem?_eq_getElem hi⟩) (fun H3 k3 => ⟨_, SqL.of ((c2.trans k3).kp.lst hl), Nat.le_refl _⟩) (fun i x H3 H3' hi k3 hy Q' B hq => ?_) (fun ha H3 k3 => ?_) (fun i hi hf H3 k3 => ?_)
    · obtain ⟨rfl, hx⟩ := hy
      have c3 := c2.trans k3
      have hx' := hx _ (SqL.of (c3.kp.lst hl))
      have hki : ks[i]? = some (ks[i]'(by omega)) := List.getElem?_eq_getElem (by omega)
      rw [hki] at hq
      refine ⟨rfl, ?_⟩
      walk_at "zz"
      exact ⟨_, _, rfl, (hk i x _ hx' hki).kp c3.kp, c3.tg, hq⟩
    · exfalso
      have : ks.all id = true := by
        rw [List.all_eq_true]
        intro k hk'
        obtain ⟨j, hj, ej⟩ := List.getElem_of_mem hk'
        have := ha j (by omega)
        rw [List.getElem?_eq_getElem hj, ej] at this
        exact this
      rw [al] at this
      cases this
    · walk_at "zz"
      exact q _ (c2.trans k3)
  · have ll : (T.map fun m => V.ref m.1).length = T.length := List.length_map ..
    have few := ok.few
    refine z_isi (n := "list") (k := true) (.base (.lst ht.lst)) (by decide +kernel) ?_
    walk_at "zz"
    refine ⟨_, rfl, t, rfl, ⟨_, SqL.of ht.lst⟩, hT _ iP, fun H2 T2 => ?_⟩
    have c2 := Kc.of_tab hT iP T2
    refine all_kc (Ps := Ps) (J := Itl K t) T.length (fun _ => true) c2.tg (fun i H3 hi k3 => ⟨_, _, SqL.of ((c2.trans k3).kp.lst ht.lst), List.getElem?_eq_getElem (by rw [ll]; exact hi)⟩) (fun H3 k3 => ⟨_, SqL.of ((c2.trans k3).kp.lst ht.lst), by rw [ll]; exact Nat.le_refl _⟩) (fun i x H3 H3' hi k3 hy Q' B hq => ?_) (fun _ H3 k3 => ?_) (fun i hi z => by cases z)
    · obtain ⟨rfl, hx⟩ := hy
      have c3 := c2.trans k3
      obtain ⟨m, hm, mem, rfl⟩ := ties_at (hx _ (SqL.of (c3.kp.lst ht.lst)))
      refine ⟨rfl, ?_⟩
      walk_at "zz"
      exact ⟨_, true, rfl, ti_true ((ht.kp c3.kp).tup m mem) (ok.nm m mem), c3.tg, hq⟩
    · have c3 := c2.trans k3
      have h3 := ht.kp c3.kp
      walk_at "zz"
      refine ⟨_, rfl, t, rfl, ⟨_, SqL.of h3.lst⟩, c3.tg _ iP, fun H4 T4 => ?_⟩
      have c4 := c3.trans (Kc.of_tab c3.tg iP T4)
      refine all_kc (Ps := Ps) (J := Itl K t) T.length (fun i => match T[i]? with | some m => decide (m.2.1 ∈ zs) && decide (m.2.2 ∈ zs) | none => false) c4.tg (fun i H5 hi k5 => ⟨_, _, SqL.of ((c4.trans k5).kp.lst ht.lst), List.getElem?_eq_getElem (by rw [ll]; exact hi)⟩) (fun H5 k5 => ⟨_, SqL.of ((c4.trans k5).kp.lst ht.lst), by rw [ll]; exact Nat.le_refl _⟩) (fun i x H5 H5' hi k5 hy Q' B hq => ?_) (fun ha H5 k5 => ?_) (fun i hi hf H5 k5 => ?_)
      · obtain ⟨rfl, hx⟩ := hy
        have c5 := c4.trans k5
        obtain ⟨m, hm, mem, rfl⟩ := ties_at (hx _ (SqL.of (c5.kp.lst ht.lst)))
        simp only [hm] at hq
        refine z_gTup (SqT.of ((ht.kp c5.kp).tup m mem)) rfl ?_
        walk_at "zz"
        refine ⟨rfl, ?_⟩
        walk_at "zz"
        refine z_inS (c5.kp.lst hn) ?_
        by_cases i1 : m.2.1 ∈ zs
        · rw [decide_eq_true i1] at hq ⊢
          walk_at "zz"
          refine z_inS (c5.kp.lst hn) ?_
          rw [Bool.true_and] at hq
          exact hq _ (Kc.refl c5.tg)
        · rw [decide_eq_false i1] at hq ⊢
          walk_at "zz"
          exact hq _ (Kc.refl c5.tg)
      · have c5 := c4.trans k5
        have h5 := ht.kp c5.kp
        have known : ∀ m ∈ T, m.2.1 ∈ zs ∧ m.2.2 ∈ zs := fun m hm => by
          obtain ⟨j, hj, ej⟩ := List.getElem_of_mem hm
          have := ha j hj
          simp only [List.getElem?_eq_getElem hj, ej, Bool.and_eq_true, decide_eq_true_eq] at this
          exact this
        walk_at "zz"
        refine z_scG ?_
        walk_at "zz"
        refine ⟨t, rfl, ⟨_, SqL.of h5.lst⟩, fun D nD => sc_list (SO := fun D => SetP P w D []) (r := rSAddP K P w) (fun i H' => Same H5 H' ∧ ∃ M : List (Addr × TKey), H' D = some (SetP P w D M) ∧ M.length ≤ i ∧ (M.length = i ↔ ((tks T).take i).Nodup) ∧ (∀ m ∈ M, H' m.1 = some (.tup (m.2.map kV))) ∧ ∀ k, k ∈ M.map (fun m => m.2) ↔ k ∈ (tks T).take i) ⟨same_upd nD, [], upd_same, Nat.le_refl _, by simp, fun m hm => absurd hm (by simp), fun k => by simp⟩ (fun i H' _ hp => SqL.of (hp.1 _ _ h5.lst)) ?_ ?_⟩
        · rintro i x H6 hx ⟨e6, M, hM, lM, nd, tM, mM⟩
          obtain ⟨m, hm, mem, rfl⟩ := ties_at hx
          have zi : (tks T)[i]? = some (tk2 m.2.1 m.2.2) := by rw [List.getElem?_map, hm]; rfl
          have il : i < T.length := (List.getElem?_eq_some_iff.mp hm).1
          walk_at "zz"
          refine z_gTup (SqT.of (e6 _ _ (h5.tup m mem))) rfl ?_
          walk_at "zz"
          refine ⟨rfl, ?_⟩
          walk_at "zz"
          refine z_minS ?_
          walk_at "zz"
          refine z_maxS ?_
          walk_at "zz"
          refine z_new (by simp) (fun p7 H7 n7 e7 h7 => ?_)
          have h7' : H7 p7 = some (.tup ((tk2 m.2.1 m.2.2).map kV)) := h7
          refine z_addP (k := tk2 m.2.1 m.2.2) (e7 _ _ hM) (SqT.of h7') (fun a ha => SqT.of (e7 _ _ (tM a ha))) (by omega) fun H8 L2 k8 h8 in8 out8 => ?_
          have ne : ∀ {b : Addr} {xs : List V}, H7 b = some (.tup xs) → b ≠ D := fun hb z => by
            rw [z, e7 _ _ hM] at hb
            cases hb
          by_cases hin : tk2 m.2.1 m.2.2 ∈ M.map (fun m => m.2)
          · have el := in8 hin
            subst el
            refine ⟨fun b o hb => k8 b o (ne_of_none hb nD) (e7 _ _ (e6 b o hb)), L2, h8, by omega, ?_, fun a ha => k8 _ _ (ne (e7 _ _ (tM a ha))) (e7 _ _ (tM a ha)), fun k => ?_⟩
            · rw [nd_take zi]
              exact ⟨fun z => by omega, fun z => absurd ((mM _).mp hin) z.2⟩
            · rw [mM, mem_take_succ zi]
              exact ⟨.inl, fun z => z.elim id fun z => by rw [z]; exact (mM _).mp hin⟩
          · have el := out8 hin
            subst el
            refine ⟨fun b o hb => k8 b o (ne_of_none hb nD) (e7 _ _ (e6 b o hb)), _, h8, by rw [List.length_cons]; omega, ?_, fun a ha => ?_, fun k => ?_⟩
            · rw [nd_take zi, List.length_cons]
              exact ⟨fun z => ⟨nd.mp (by omega), fun hm => hin ((mM _).mpr hm)⟩, fun z => by have := nd.mpr z.1; omega⟩
            · rcases List.mem_cons.mp ha with rfl | ha
              · exact k8 _ _ (ne h7') h7'
              · exact k8 _ _ (ne (e7 _ _ (tM a ha))) (e7 _ _ (tM a ha))
            · rw [List.map_cons, List.mem_cons, mM, mem_take_succ zi]
              exact Or.comm
        · rintro H6 ⟨e6, M, hM, lM, nd, tM, mM⟩
          rw [ll] at lM nd
          rw [List.take_of_length_le (by rw [List.length_map]; exact Nat.le_refl _)] at nd
          have c6 := c5.trans (Kc.of_same c5.tg e6)
          walk_at "zz"
          refine ⟨D, M, rfl, hM, ?_⟩
          walk_at "zz"
          refine z_lenL (SqL.of (ht.kp c6.kp).lst) ?_
          walk_at "zz"
          rw [ll]
          by_cases hnd : M.length = T.length
          · rw [decide_eq_true (show (M.length : Int) = (T.length : Int) by omega)]
            walk_at "zz"
            exact q ⟨known, nd.mp hnd⟩ _ c6
          · rw [decide_eq_false (show ¬ (M.length : Int) = (T.length : Int) by omega)]
            walk_at "zz"
            exact qe (fun z => hnd (nd.mpr z.2)) _ c6
      · have c5 := c4.trans k5
        walk_at "zz"
        refine qe (fun z => ?_) _ c5
        have e2 : T[i]? = some T[i] := List.getElem?_eq_getElem hi
        simp only [e2] at hf
        obtain ⟨z1, z2⟩ := z.1 _ (List.getElem_mem hi)
        rw [decide_eq_true z1, decide_eq_true z2] at hf
        cases hf
/-- a thing that is no web: what it is, or what its hands or ties are -/
def WebBad (H : Hp) (v : V) : Prop := (∃ n, TyV H v n ∧ n ≠ "tuple") ∨ ∃ p xs, v = .ref p ∧ H p = some (.tup xs) ∧
  (xs.length ≠ 2 ∨ ∃ x y, xs = [x, y] ∧ (HandsBad H x ∨ ∃ h L, x = .ref h ∧ Hands H h L ∧ HandsV L ∧ (¬ HandsT L ∨ TiesBad H y ∨ ∃ t T, y = .ref t ∧ Ties H t T ∧ TiesV T ∧ ¬ TiesT (nmsOf L) T)))
structure Web (H : Hp) (p : Addr) (L : List HandR) (T : List TieR) : Prop where
  ex : ∃ h t, H p = some (.tup [.ref h, .ref t]) ∧ Hands H h L ∧ Ties H t T
def spWebX (Ps : List Addr) (CB : Addr) : Sp := fun vs H Q E => ∃ v, vs = [v] ∧ TGs H Ps ∧
  ((WebBad H v ∧ ∀ H2, Kc Ps H H2 → E (.ref CB) none H2) ∨ ∃ p L T, v = .ref p ∧ Web H p L T ∧ HandsV L ∧ HandsT L ∧ TiesV T ∧ TiesT (nmsOf L) T ∧ ∀ H2, Kc Ps H H2 → Q .non H2)
theorem TyV.noT {H : Hp} {v : V} {n : String} (h : TyV H v n) (ne : n ≠ "tuple") : kitB n "tuple" = some false := h.noTup ne
theorem TiesBad.kp {H H' : Hp} {v : V} (h : TiesBad H v) (k : Kp H H') : TiesBad H' v := by
  rcases h with ⟨n, ty, ne⟩ | ⟨t, xs, e, hl, ks, lk, hk, al⟩
  · exact .inl ⟨n, ty.kp k, ne⟩
  · exact .inr ⟨t, xs, e, k.lst hl, ks, lk, fun i x b hx hb => (hk i x b hx hb).kp k, al⟩
theorem ok_check_web {f CB : Addr} {Ps : List Addr} {fd : FuncData} (F : FnP K "check_web" s_check_web f fd) (e_BadWeb : ErrC K CB) (g_BadWeb : mg "BadWeb" = some (.ref CB)) (m_isinstance : mg "isinstance" = none) (m_tuple : mg "tuple" = none) (m_len : mg "len" = none)
    (h_check_hands : HasX P w K mg base 13 "check_hands" ["hands"] (spHandsX Ps CB)) (h_check_ties : HasX P w K mg base 12 "check_ties" ["ties", "names"] (spTiesX Ps CB)) : FnOk P w K mg base (L2.CX P w) 14 f fd ["web"] (spWebX Ps CB) := by
  refine okCX F sc_check_web (fun vs H Q E h => ?_) (fun A outer s H vs Q E hr h => ?_)
  · obtain ⟨v, rfl, _⟩ := h; rfl
  obtain ⟨v, rfl, hT, h⟩ := h
  refine ⟨_, (pss_cons (ps_if (PW.pt (pw_or (pt_not (pt_val (pe_callB (call_isiE K) (by rfl) m_isinstance (by decide +kernel) (pa_cons (pv 0) (pa_cons (pe_bltn (v := .ty "tuple") (by rfl) m_tuple (by decide +kernel) rfl) pa_nil))))) (pw_or1 (pt_cmpR op_ne (pe_callB (call_lenE K) (by rfl) m_len (by decide +kernel) (pa_cons (pv 0) pa_nil)) pe_int (nomark _)))))
    (pss_one (ps_raise rfl (takes_of rfl rfl rfl rfl) (pmk_err e_BadWeb g_BadWeb (by rfl))))
    pss_nil)
  (pss_cons (ps_asg (pv 0) (pg_tup rfl (pgs_cons (pg_name (i := 1) sc_check_web.nd rfl (.inl rfl)) (pgs_cons (pg_name (i := 2) sc_check_web.nd rfl (.inl rfl)) pgs_nil))))
  (pss_cons (ps_expr (pe_callHX h_check_hands (hr.mono (by decide)) (by rfl) (takes_of rfl rfl rfl rfl) (pa_cons (pv 1) pa_nil)))
  (pss_one (ps_expr (pe_callHX h_check_ties (hr.mono (by decide)) (by rfl) (takes_of rfl rfl rfl rfl) (pa_cons (pv 2) (pa_cons (pe_lc (own := [("name", 3), ("numbers", 4)]) (g := (gTup K 2 (gCons (gName 3) (gCons (gName 4) gNil)))) (by rfl) sc_check_web.nd (pi_listE K (pv 1)) (blkOk_by (own := [("name", 3), ("numbers", 4)]) (N := ["web", "hands", "ties", "name", "numbers"]) (sc := defScope s_check_web) (by decide +kernel)) (fun _ _ _ _ _ => (pg_tup rfl (pgs_cons (pg_name (i := 3) sc_check_web.nd rfl (.inl rfl)) (pgs_cons (pg_name (i := 4) sc_check_web.nd rfl (.inl rfl)) pgs_nil)))) (fun _ _ _ _ _ => pts_nil) (fun _ _ _ _ _ => (pv 3))) pa_nil)))))))), ?_⟩
  walk_at "zz"
  rcases h with ⟨⟨n, ty, ne⟩ | ⟨p, xs, rfl, hp, bad⟩, q⟩ | ⟨p, L, T, rfl, wb, okH, okT, tH, tT, q⟩
  · refine z_isi ty.x (ty.noTup ne) ?_
    walk_at "zz"
    exact q H (Kc.refl hT)
  · refine z_isi (n := "tuple") (k := true) (.base (.tup hp)) (by decide +kernel) ?_
    walk_at "zz"
    refine z_lenT hp ?_
    walk_at "zz"
    by_cases h2 : xs.length = 2
    · rw [decide_eq_true (show (xs.length : Int) = 2 by omega)]
      obtain ⟨x, y, exy, bad2⟩ := bad.resolve_left (fun z => z h2)
      clear bad
      subst exy
      walk_at "zz"
      refine z_gTup (SqT.of hp) rfl ?_
      walk_at "zz"
      refine z_callS ?_
      walk_at "zz"
      rcases bad2 with bad | ⟨h, L, rfl, hh, okH, bad⟩
      · exact ⟨_, rfl, hT, .inl ⟨bad, fun H2 c2 => q H2 c2⟩⟩
      · refine ⟨_, rfl, hT, .inr ⟨h, L, rfl, hh, okH, fun tH H2 c2 => ?_, fun _ H2 c2 => q H2 c2⟩⟩
        have bad := bad.resolve_left (fun z => z tH)
        have hh2 := hh.kp c2.kp
        walk_at "zz"
        refine z_callS ?_
        walk_at "zz"
        show iList K _ _ _ _
        walk_at "zz"
        refine ⟨h, rfl, ⟨_, SqL.of hh2.lst⟩, fun D nD => lc_list (xs := L.map fun m => V.ref m.1) (fun i H' => Same H2 H' ∧ H' D = some (.lst (((nmsOf L).take i).map V.str))) ⟨same_upd nD, upd_same⟩ (fun i H' _ hp => SqL.of (hp.1 _ _ hh2.lst)) ?_ ?_⟩
        · rintro i x H3 hx ⟨e3, hD⟩
          obtain ⟨m, hm, mem, rfl⟩ := hands_at hx
          have zi : (nmsOf L)[i]? = some m.2.1 := by rw [List.getElem?_map, hm]; rfl
          have few := okH.few
          walk_at "zz"
          refine z_gTup (SqT.of (e3 _ _ (hh2.tup m mem))) rfl ?_
          walk_at "zz"
          refine ⟨rfl, ?_⟩
          walk_at "zz"
          refine ⟨_, hD, small1000 (by rw [List.length_map, List.length_take, List.length_map]; omega), fun b o hb => by rw [upd_ne (ne_of_none hb nD)]; exact e3 _ _ hb, ?_⟩
          rw [upd_same, List.take_add_one, zi, List.map_append]
          rfl
        · rintro H3 ⟨e3, hD⟩
          have c3 := c2.trans (Kc.of_same c2.tg e3)
          have et : (nmsOf L).take (L.map fun m => V.ref m.1).length = nmsOf L := List.take_of_length_le (by rw [List.length_map, List.length_map]; exact Nat.le_refl _)
          rw [et] at hD
          walk_at "zz"
          refine ⟨_, D, nmsOf L, rfl, hD, c3.tg, ?_⟩
          rcases bad with bad | ⟨t, T, rfl, ht, okT, nt⟩
          · exact .inl ⟨bad.kp c3.kp, fun H4 c4 => q _ (c3.trans c4)⟩
          · exact .inr ⟨t, T, rfl, ht.kp c3.kp, okT, fun z => absurd z nt, fun _ H4 c4 => q _ (c3.trans c4)⟩
    · rw [decide_eq_false (show ¬ (xs.length : Int) = 2 by omega)]
      walk_at "zz"
      exact q H (Kc.refl hT)
  · obtain ⟨h, t, hp, hh, ht⟩ := wb.ex
    refine z_isi (n := "tuple") (k := true) (.base (.tup hp)) (by decide +kernel) ?_
    walk_at "zz"
    refine z_lenT hp ?_
    walk_at "zz"
    refine z_gTup (SqT.of hp) rfl ?_
    walk_at "zz"
    refine z_callS ?_
    walk_at "zz"
    refine ⟨_, rfl, hT, .inr ⟨h, L, rfl, hh, okH, fun _ H2 c2 => ?_, fun z => absurd okT z⟩⟩
    have hh2 := hh.kp c2.kp
    walk_at "zz"
    refine z_callS ?_
    walk_at "zz"
    show iList K _ _ _ _
    walk_at "zz"
    refine ⟨h, rfl, ⟨_, SqL.of hh2.lst⟩, fun D nD => lc_list (xs := L.map fun m => V.ref m.1) (fun i H' => Same H2 H' ∧ H' D = some (.lst (((nmsOf L).take i).map V.str))) ⟨same_upd nD, upd_same⟩ (fun i H' _ hp => SqL.of (hp.1 _ _ hh2.lst)) ?_ ?_⟩
    · rintro i x H3 hx ⟨e3, hD⟩
      obtain ⟨m, hm, mem, rfl⟩ := hands_at hx
      have zi : (nmsOf L)[i]? = some m.2.1 := by rw [List.getElem?_map, hm]; rfl
      have few := okH.few
      walk_at "zz"
      refine z_gTup (SqT.of (e3 _ _ (hh2.tup m mem))) rfl ?_
      walk_at "zz"
      refine ⟨rfl, ?_⟩
      walk_at "zz"
      refine ⟨_, hD, small1000 (by rw [List.length_map, List.length_take, List.length_map]; omega), fun b o hb => by rw [upd_ne (ne_of_none hb nD)]; exact e3 _ _ hb, ?_⟩
      rw [upd_same, List.take_add_one, zi, List.map_append]
      rfl
    · rintro H3 ⟨e3, hD⟩
      have c3 := c2.trans (Kc.of_same c2.tg e3)
      have et : (nmsOf L).take (L.map fun m => V.ref m.1).length = nmsOf L := List.take_of_length_le (by rw [List.length_map, List.length_map]; exact Nat.le_refl _)
      rw [et] at hD
      walk_at "zz"
      refine ⟨_, D, nmsOf L, rfl, hD, c3.tg, .inr ⟨t, T, rfl, ht.kp c3.kp, tH, fun _ H4 c4 => ?_, fun z => absurd tT z⟩⟩
      walk_at "zz"
      exact q _ (c3.trans c4)
def spWholeX (Ps : List Addr) (CB : Addr) : Sp := fun vs H Q E => ∃ v, vs = [v] ∧ TGs H Ps ∧ WebBad H v ∧ ∀ H2, Kc Ps H H2 → E (.ref CB) none H2
theorem ok_is_whole {f CB : Addr} {Ps : List Addr} {fd : FuncData} (F : FnP K "is_whole" s_is_whole f fd)
    (h_check_web : HasX P w K mg base 14 "check_web" ["web"] (spWebX Ps CB)) : FnOk P w K mg base (L2.CX P w) 15 f fd ["web"] (spWholeX Ps CB) := by
  refine okCX F sc_is_whole (fun vs H Q E h => ?_) (fun A outer s H vs Q E hr h => ?_)
  · obtain ⟨v, rfl, _⟩ := h; rfl
  obtain ⟨v, rfl, hT, bad, q⟩ := h
  refine ⟨_, (pss_cons (ps_expr (pe_callHX h_check_web (hr.mono (by decide)) (by rfl) (takes_of rfl rfl rfl rfl) (pa_cons (pv 0) pa_nil)))
  (pss_cons ps_never (pss_cons ps_never (pss_one ps_never)))), ?_⟩
  walk_at "zz"
  refine z_callS ?_
  walk_at "zz"
  exact ⟨_, rfl, hT, .inl ⟨bad, fun H2 c2 => q H2 c2⟩⟩
def spRefused (Ps : List Addr) : Sp := fun vs H Q _ => ∃ (way : Int) (v : V), vs = [.int way, v] ∧ TGs H Ps ∧ WebBad H v ∧ ∀ H2, Kc Ps H H2 → Q (.bl true) H2
theorem ok__law_refused {f CB CS C1 C2 C3 C4 C5 : Addr} {Ps : List Addr} {fd : FuncData} (F : FnP K "_law_refused" s__law_refused f fd) (m_isinstance : mg "isinstance" = none) (m_ValueError : mg "ValueError" = none) (g_SumError : mg "SumError" = some (.ref CS)) (g_BadWeb : mg "BadWeb" = some (.ref CB)) (g_BadBooks : mg "BadBooks" = some (.ref C1)) (g_NoDeed : mg "NoDeed" = some (.ref C2)) (g_NoNear : mg "NoNear" = some (.ref C3)) (g_NoRow : mg "NoRow" = some (.ref C4)) (g_NoText : mg "NoText" = some (.ref C5))
    (exm : PySem.W.exmOne K (.ref CB) (.ref CS) = some true) (ec : ExcC K CB ∧ (∀ c ∈ [Value.ref CB, .type "ValueError"], PySem.W.kitOne K (.ref CB) c = some true) ∧ PySem.W.kitAny K (.ref CB) [.ref C1, .ref C2, .ref C3, .ref C4, .ref C5] = some false)
    (h_check_web : HasX P w K mg base 14 "check_web" ["web"] (spWebX Ps CB)) (h_is_whole : HasX P w K mg base 15 "is_whole" ["web"] (spWholeX Ps CB)) : FnOk P w K mg base CX0 16 f fd ["_law_way", "_law_web_here"] (spRefused Ps) := by
  refine F.ok sc__law_refused (fun vs H Q E h => ?_) (fun cdv A outer s H vs Q E hr h => ?_)
  · obtain ⟨way, v, rfl, _⟩ := h; rfl
  obtain ⟨way, v, rfl, hT, bad, q⟩ := h
  obtain ⟨ex, yes, no⟩ := ec
  refine ⟨_, PSs.nox (pss_cons (ps_set (i := 2) sc__law_refused.nd rfl (.inl rfl) pe_bl)
  (pss_cons (ps_try_as (i := 3) rfl rfl sc__law_refused.nd rfl rfl ⟨rfl, by decide, .inl g_SumError⟩ takes0 (fun W pn xe tk _ => (pss_one (ps_if (pt_cmpR op_eq (pv 0) pe_int (nomark _))
    (pss_one (ps_expr (pe_callHX h_check_web (hr.mono (by decide)) (by rfl) tk (pa_cons (pv 1) pa_nil))))
    (pss_one (ps_expr (pe_callHX h_is_whole (hr.mono (by decide)) (by rfl) tk (pa_cons (pv 1) pa_nil))))))) (fun a oe cls d pn hz hf => (pss_cons (ps_set (i := 4) sc__law_refused.nd rfl (.inl rfl) (pe_callB (call_isXT K hz hf) (by rfl) m_isinstance (by decide +kernel) (pa_cons (pv 3) (pa_cons (pe_tup (pa_cons (pe_glob (v := .ref _) (by rfl) g_BadBooks rfl) (pa_cons (pe_glob (v := .ref _) (by rfl) g_NoDeed rfl) (pa_cons (pe_glob (v := .ref _) (by rfl) g_NoNear rfl) (pa_cons (pe_glob (v := .ref _) (by rfl) g_NoRow rfl) (pa_cons (pe_glob (v := .ref _) (by rfl) g_NoText rfl) pa_nil)))))) pa_nil))))
  (pss_one (ps_set (i := 2) sc__law_refused.nd rfl (.inl rfl) (pe_and (pe_callB (call_isX K hz hf) (by rfl) m_isinstance (by decide +kernel) (pa_cons (pv 3) (pa_cons (pe_glob (v := .ref _) (by rfl) g_BadWeb rfl) pa_nil))) (pe_and (pe_callB (call_isX K hz hf) (by rfl) m_isinstance (by decide +kernel) (pa_cons (pv 3) (pa_cons (pe_bltn (v := .ty "ValueError") (by rfl) m_ValueError (by decide +kernel) rfl) pa_nil))) (pe_one (pe_not (pv 4))))))))))
  (pss_one (ps_ret (pv 2))))), ?_⟩
  walk_at "zz"
  refine z_ite (fun h => ?_) (fun h => ?_)
  · walk_at "zz"
    refine z_callS ?_
    walk_at "zz"
    refine ⟨_, rfl, hT, .inl ⟨bad, fun H2 c2 => ?_⟩⟩
    refine ⟨true, exm, fun _ a ha => ?_, fun z => nomatch z⟩
    walk_at "zz"
    refine z_new (by simp) (fun p3 H3 n3 e3 h3 => ?_)
    refine ⟨CB, p3, [C1, C2, C3, C4, C5], false, rfl, rfl, ex, rfl, h3, no, ?_⟩
    walk_at "zz"
    refine ⟨CB, rfl, rfl, ex, .ref CB, .ref CB, true, rfl, fun u r => by cases r; rfl, yes _ (by simp), ?_⟩
    walk_at "zz"
    refine ⟨CB, rfl, rfl, ex, .ty "ValueError", .type "ValueError", true, rfl, fun u r => by cases r; rfl, yes _ (by simp), ?_⟩
    walk_at "zz"
    exact q _ (c2.trans (Kc.of_same c2.tg e3))
  · walk_at "zz"
    refine z_callS ?_
    walk_at "zz"
    refine ⟨_, rfl, hT, bad, fun H2 c2 => ?_⟩
    refine ⟨true, exm, fun _ a ha => ?_, fun z => nomatch z⟩
    walk_at "zz"
    refine z_new (by simp) (fun p3 H3 n3 e3 h3 => ?_)
    refine ⟨CB, p3, [C1, C2, C3, C4, C5], false, rfl, rfl, ex, rfl, h3, no, ?_⟩
    walk_at "zz"
    refine ⟨CB, rfl, rfl, ex, .ref CB, .ref CB, true, rfl, fun u r => by cases r; rfl, yes _ (by simp), ?_⟩
    walk_at "zz"
    refine ⟨CB, rfl, rfl, ex, .ty "ValueError", .type "ValueError", true, rfl, fun u r => by cases r; rfl, yes _ (by simp), ?_⟩
    walk_at "zz"
    exact q _ (c2.trans (Kc.of_same c2.tg e3))
def spCell (K : PySem.W.Frag) : Sp := fun vs H Q _ => ∃ (a : Addr) (ns : List Int) (k : Nat), vs = [.ref a, .int (k : Int)] ∧ SqL K H a (ns.map V.int) ∧ ns.length ≤ 63 ∧ ∀ c : Int, Q (.int c) H
theorem ok__law_cell_at {f : Addr} {fd : FuncData} (F : FnP K "_law_cell_at" s__law_cell_at f fd) (m_len : mg "len" = none) : FnOk P w K mg base CX0 1 f fd ["_law_script", "_law_k"] (spCell K) := by
  refine F.ok sc__law_cell_at (fun vs H Q E h => ?_) (fun cdv A outer s H vs Q E hr h => ?_)
  · obtain ⟨a, ns, k, rfl, _⟩ := h; rfl
  obtain ⟨a, ns, k, rfl, hS, hl, q⟩ := h
  refine ⟨_, PSs.nox (pss_cons (ps_if (pt_cmpR op_lt (pv 1) (pe_callB (call_lenE K) (by rfl) m_len (by decide +kernel) (pa_cons (pv 0) pa_nil)) (nomark _))
    (pss_one (ps_ret (pe_ix (ix_listE K) (pv 0) (pv 1) (fun _ _ => rfl))))
    pss_nil)
  (pss_one (ps_ret pe_int))), ?_⟩
  walk_at "zz"
  refine z_lenL hS ?_
  rw [List.length_map]
  walk_at "zz"
  refine z_ite (fun h => ?_) (fun h => ?_)
  · walk_at "zz"
    have h1 : k < ns.length := by omega
    refine z_ixL hS (v := .int ns[k]) (atI_nat ?_) ?_
    · rw [List.getElem?_map, List.getElem?_eq_getElem h1]
      rfl
    · exact q _
  · walk_at "zz"
    exact q _
def spMixed : Sp := fun vs H Q _ => ∃ c k : Int, vs = [.int c, .int k] ∧ ∀ r : Int, 0 ≤ r → Q (.int r) H
theorem ok__law_mixed {f : Addr} {fd : FuncData} (F : FnP K "_law_mixed" s__law_mixed f fd) : FnOk P w K mg base CX0 1 f fd ["_law_cell", "_law_k"] spMixed := by
  refine F.ok sc__law_mixed (fun vs H Q E h => ?_) (fun cdv A outer s H vs Q E hr h => ?_)
  · obtain ⟨c, k, rfl, _⟩ := h; rfl
  obtain ⟨c, k, rfl, q⟩ := h
  refine ⟨_, PSs.nox (pss_cons (ps_set (i := 2) sc__law_mixed.nd rfl (.inl rfl) (pe_op op_modN (pe_op op_mulA (pe_op op_add (pe_op op_add (pe_op op_modN (pv 0) pe_int) (pe_op op_mulA pe_int (pv 1))) pe_int) pe_int) pe_int))
  (pss_cons (ps_set (i := 2) sc__law_mixed.nd rfl (.inl rfl) (pe_op op_modN (pe_op op_mulA (pv 2) (pe_op op_add (pe_op op_fdivA (pv 2) pe_int) pe_int)) pe_int))
  (pss_one (ps_ret (pe_op op_modN (pe_op op_mulA (pv 2) (pe_op op_add (pe_op op_fdivA (pv 2) pe_int) pe_int)) pe_int))))), ?_⟩
  walk_at "zz"
  refine z_mulA (mulL (by decide)) ?_
  walk_at "zz"
  refine z_mulA (mulR (by decide)) ?_
  walk_at "zz"
  generalize hn : ((c.fmod 2147483647 + 7919 * k + 1) * 48271).fmod 2147483647 = n
  have n0 : 0 ≤ n := by rw [← hn]; exact Int.fmod_nonneg_of_pos _ (by decide)
  have n1 : n < 2147483647 := by rw [← hn]; exact Int.fmod_lt_of_pos _ (by decide)
  refine z_fdivA ⟨by decide, by decide +kernel⟩ ?_
  walk_at "zz"
  refine z_mulA (mulL ⟨by omega, by omega⟩) ?_
  walk_at "zz"
  generalize hk : (n * (n.fdiv 1009 + 69621)).fmod 2147483647 = j
  have k0 : 0 ≤ j := by rw [← hk]; exact Int.fmod_nonneg_of_pos _ (by decide)
  have k1 : j < 2147483647 := by rw [← hk]; exact Int.fmod_lt_of_pos _ (by decide)
  refine z_fdivA ⟨by decide, by decide +kernel⟩ ?_
  walk_at "zz"
  refine z_mulA (mulL ⟨by omega, by omega⟩) ?_
  walk_at "zz"
  exact q _ (Int.fmod_nonneg_of_pos _ (by decide))
def spBegin (K : PySem.W.Frag) : Sp := fun vs H Q _ => ∃ c : Int, vs = [.int c] ∧ ∀ p H', H p = none → Same H H' → Src H' p → Q (.ref p) H'
theorem ok__law_well {f : Addr} {fd : FuncData} (F : FnP K "_law_well" s__law_well f fd) (m_int : mg "int" = none) : FnOk P w K mg base CX0 1 f fd ["_law_cell"] (spBegin K) := by
  refine F.ok sc__law_well (fun vs H Q E h => ?_) (fun cdv A outer s H vs Q E hr h => ?_)
  · obtain ⟨c, rfl, _⟩ := h; rfl
  obtain ⟨c, rfl, q⟩ := h
  refine ⟨_, PSs.nox (pss_one (ps_ret (pe_lst (pa_cons (pe_ix (ix_listE K) (pe_lst (pa_cons pe_int (pa_cons (pv 0) pa_nil))) (pe_callTy call_intE (by rfl) m_int (by decide +kernel) (pa_cons (pe_cmpR op_ge (pv 0) (pe_op op_pow pe_int pe_int) (nomark _)) pa_nil)) (fun _ _ => rfl)) (pa_cons (pv 0) (pa_cons pe_int pa_nil)))))), ?_⟩
  walk_at "zz"
  refine z_new (by simp) (fun p1 H1 n1 s1 h1 => ?_)
  walk_at "zz"
  obtain ⟨x, hx⟩ : ∃ x : Int, atI [V.int 0, V.int c] (if decide (((10 : Int) ^ Int.toNat 18) ≤ c) = true then 1 else 0) = some (.int x) := by
    by_cases h : ((10 : Int) ^ Int.toNat 18) ≤ c
    · exact ⟨c, by rw [decide_eq_true h]; rfl⟩
    · exact ⟨0, by rw [decide_eq_false h]; rfl⟩
  refine z_ixL (SqL.of h1) hx ?_
  walk_at "zz"
  refine z_new (by simp) (fun p2 H2 n2 s2 h2 => ?_)
  exact q p2 H2 (s1.free n2) (s1.trans s2) ⟨_, _, _, h2⟩
def spDraw : Sp := fun vs H Q _ => ∃ (s : Addr) (m : Int), vs = [.ref s, .int m] ∧ 0 < m ∧ m.natAbs < 2 ^ 8000 ∧ Src H s ∧ ∀ (r : Int) H', 0 ≤ r → r < m → Dr s H H' → Q (.int r) H'
theorem ok__law_draw {f : Addr} {fd : FuncData} (F : FnP K "_law_draw" s__law_draw f fd) (h__law_mixed : Has P w K mg base 1 "_law_mixed" ["_law_cell", "_law_k"] spMixed) : FnOk P w K mg base CX0 2 f fd ["_law_well_here", "_law_many"] spDraw := by
  refine F.ok sc__law_draw (fun vs H Q E h => ?_) (fun cdv A outer s H vs Q E hr h => ?_)
  · obtain ⟨s, m, rfl, _⟩ := h; rfl
  obtain ⟨s, m, rfl, h0, hm, ⟨a, b, c, hs⟩, q⟩ := h
  refine ⟨_, PSs.nox (pss_cons (ps_if (pt_cmpR op_gt (pe_ix (ix_listE K) (pv 0) pe_int (fun _ _ => rfl)) pe_int (nomark _))
    (pss_cons (ps_set (i := 2) sc__law_draw.nd rfl (.inl rfl) (pe_op op_modN (pe_ix (ix_listE K) (pv 0) pe_int (fun _ _ => rfl)) (pv 1)))
  (pss_cons (ps_asg (pe_op op_fdivA (pe_ix (ix_listE K) (pv 0) pe_int (fun _ _ => rfl)) (pv 1)) (pg_sub (pv 0) pe_int set_list))
  (pss_one (ps_ret (pv 2)))))
    pss_nil)
  (pss_cons (ps_asg (pe_op op_add (pe_ix (ix_listE K) (pv 0) pe_int (fun _ _ => rfl)) pe_int) (pg_sub (pv 0) pe_int set_list))
  (pss_one (ps_ret (pe_op op_modN (pe_callH h__law_mixed (hr.mono (by decide)) (by rfl) (pa_cons (pe_ix (ix_listE K) (pv 0) pe_int (fun _ _ => rfl)) (pa_cons (pe_ix (ix_listE K) (pv 0) pe_int (fun _ _ => rfl)) pa_nil))) (pv 1)))))), ?_⟩
  have md : ∀ x : Int, CDivA x m := fun x => divA (n := 8000) (by omega) hm (by decide) (by decide)
  have dr : ∀ {H' : Hp} {x y z : Int}, H' = upd H s (.lst [.int x, .int y, .int z]) → Dr s H H' := fun {H' x y z} e => by
    rw [e]
    exact ⟨fun u o n h => by rw [upd_ne n]; exact h, ⟨_, _, _, upd_same⟩, ⟨_, _, _, hs⟩⟩
  walk_at "zz"
  refine z_ixL (SqL.of hs) (v := .int a) rfl ?_
  walk_at "zz"
  refine z_ite (fun h => ?_) (fun h => ?_)
  · walk_at "zz"
    refine z_ixL (SqL.of hs) (v := .int a) rfl ?_
    walk_at "zz"
    refine z_ixL (SqL.of hs) (v := .int a) rfl ?_
    walk_at "zz"
    refine z_fdivA (md _) ?_
    walk_at "zz"
    refine z_setL hs (j := 0) rfl ?_
    walk_at "zz"
    exact q _ _ (Int.fmod_nonneg_of_pos _ h0) (Int.fmod_lt_of_pos _ h0) (dr rfl)
  · walk_at "zz"
    refine z_ixL (SqL.of hs) (v := .int c) rfl ?_
    walk_at "zz"
    refine z_setL hs (j := 2) rfl ?_
    have hs2 : (upd H s (.lst ([V.int a, V.int b, V.int c].set 2 (.int (c + 1))))) s = some (.lst [.int a, .int b, .int (c + 1)]) := upd_same
    walk_at "zz"
    refine z_ixL (SqL.of hs2) (v := .int b) rfl ?_
    walk_at "zz"
    refine z_ixL (SqL.of hs2) (v := .int (c + 1)) rfl ?_
    walk_at "zz"
    refine ⟨_, _, rfl, fun r r0 => ?_⟩
    walk_at "zz"
    exact q _ _ (Int.fmod_nonneg_of_pos _ h0) (Int.fmod_lt_of_pos _ h0) (dr rfl)
def spPick : Sp := fun vs H Q _ => ∃ (s l : Addr) (xs : List V), vs = [.ref s, .ref l] ∧ Src H s ∧ l ≠ s ∧ H l = some (.lst xs) ∧ 1 ≤ xs.length ∧ xs.length ≤ 1000 ∧ ∀ (i : Nat) v H', xs[i]? = some v → Dr s H H' → Q v H'
theorem ok__law_pick {f : Addr} {fd : FuncData} (F : FnP K "_law_pick" s__law_pick f fd) (m_len : mg "len" = none) (h__law_draw : Has P w K mg base 2 "_law_draw" ["_law_well_here", "_law_many"] spDraw) : FnOk P w K mg base CX0 3 f fd ["_law_well_here", "_law_some"] spPick := by
  refine F.ok sc__law_pick (fun vs H Q E h => ?_) (fun cdv A outer s H vs Q E hr h => ?_)
  · obtain ⟨s, l, xs, rfl, _⟩ := h; rfl
  obtain ⟨s, l, xs, rfl, hs, nl, hl, h1, h2, q⟩ := h
  refine ⟨_, PSs.nox (pss_one (ps_ret (pe_ix (ix_listE K) (pv 1) (pe_callH h__law_draw (hr.mono (by decide)) (by rfl) (pa_cons (pv 0) (pa_cons (pe_callB (call_lenE K) (by rfl) m_len (by decide +kernel) (pa_cons (pv 1) pa_nil)) pa_nil))) (fun _ _ => rfl)))), ?_⟩
  walk_at "zz"
  refine z_lenL (SqL.of hl) ?_
  walk_at "zz"
  refine ⟨s, _, rfl, by omega, Nat.lt_of_le_of_lt (m := 1000) (by omega) (by decide +kernel), hs, fun r H1 r0 r1 d1 => ?_⟩
  obtain ⟨j, rfl⟩ : ∃ j : Nat, r = (j : Int) := ⟨r.toNat, by omega⟩
  have hj : j < xs.length := by omega
  exact z_ixL (SqL.of (d1.keep _ _ nl hl)) (v := xs[j]) (atI_nat (List.getElem?_eq_getElem hj)) (q j _ _ (List.getElem?_eq_getElem hj) d1)
def W13 : List Str := ["turn", "come", "tie", "cut", "set", "hand", "web", "book", "up", "held", "way", "sure", "sum"]
def wd (j : Nat) : Str := (W13[j]?).getD ""
theorem wd_nm : ∀ j, j < 13 → nmB (wd j) = true := by decide +kernel
theorem wd_inj : ∀ i, i < 13 → ∀ j, j < 13 → wd i = wd j → i = j := by decide +kernel
theorem wd_at {j : Nat} (h : j < 13) : (W13.map V.str)[j]? = some (.str (wd j)) := by
  have e : W13[j]? = some W13[j] := List.getElem?_eq_getElem (by exact h)
  rw [List.getElem?_map]
  unfold wd
  rw [e]
  rfl
theorem split13 : Txt.split "turn come tie cut set hand web book up held way sure sum" " " = W13 := by decide +kernel
theorem cut_sum (z : Str) (a : Nat) (h : a ≤ z.length) : (cutS z none (some (a : Int))).length + (cutS z (some (a : Int)) none).length ≤ z.length := by
  unfold cutS
  show (List.toArray _).size + (List.toArray _).size ≤ _
  rw [List.size_toArray, List.size_toArray, List.length_take, List.length_drop, List.length_take, List.length_drop, HT.sIx_nat, HT.sIx_none, HT.sIx_none, HT.sIx_nat]
  have : z.cps.toList.length = z.length := by simp [Str.length]
  omega
theorem wd_no : ∀ j, j < 13 → wd j ≠ "strange" := by decide +kernel
theorem apart_rep {k c : Nat} (h : (⟨Array.replicate (k + 1) c⟩ : Str) = "strange") : False := by
  have e : Array.replicate (k + 1) c = #[115, 116, 114, 97, 110, 103, 101] := congrArg Str.cps h
  have e0 : (Array.replicate (k + 1) c).toList = [115, 116, 114, 97, 110, 103, 101] := by rw [e]
  rw [Array.toList_replicate] at e0
  have m1 : (115 : Nat) ∈ List.replicate (k + 1) c := by rw [e0]; simp
  have m2 : (116 : Nat) ∈ List.replicate (k + 1) c := by rw [e0]; simp
  have := List.eq_of_mem_replicate m1
  have := List.eq_of_mem_replicate m2
  omega
theorem apart_mid {a b : Str} {c d : Nat} (h : a ++ (⟨#[c]⟩ : Str) ++ b = "strange" ∧ a ++ (⟨#[d]⟩ : Str) ++ b = "unheard") : False := by
  have e : ∀ c : Nat, (a ++ (⟨#[c]⟩ : Str) ++ b).cps.toList = a.cps.toList ++ [c] ++ b.cps.toList := fun c => by
    show ((a.cps ++ #[c]) ++ b.cps).toList = _
    rw [Array.toList_append, Array.toList_append]
  have h1 : a.cps.toList ++ [c] ++ b.cps.toList = [115, 116, 114, 97, 110, 103, 101] := by rw [← e, h.1]; rfl
  have h2 : a.cps.toList ++ [d] ++ b.cps.toList = [117, 110, 104, 101, 97, 114, 100] := by rw [← e, h.2]; rfl
  cases ha : a.cps.toList with
  | nil =>
    rw [ha] at h1 h2
    have b1 : b.cps.toList = [116, 114, 97, 110, 103, 101] := (List.cons.inj h1).2
    have b2 : b.cps.toList = [110, 104, 101, 97, 114, 100] := (List.cons.inj h2).2
    rw [b1] at b2
    exact absurd b2 (by decide)
  | cons x l =>
    rw [ha] at h1 h2
    have x1 : x = 115 := (List.cons.inj h1).1
    have x2 : x = 117 := (List.cons.inj h2).1
    omega
def spNames : Sp := fun vs H Q _ => ∃ (s : Addr) (n : Nat), vs = [.ref s, .int (n : Int)] ∧ n ≤ 8 ∧ Src H s ∧ ∀ (l : Addr) (zs : List Str) (H' : Hp), H l = none → H' l = some (.lst (zs.map V.str)) → zs.length = n → zs.Nodup → (∀ z ∈ zs, nmB z = true) → ¬ (("strange" : Str) ∈ zs ∧ ("unheard" : Str) ∈ zs) → Dr s H H' → Q (.ref l) H'
theorem ok__law_names {f : Addr} {fd : FuncData} (F : FnP K "_law_names" s__law_names f fd) (m_len : mg "len" = none) (m_range : mg "range" = none) (h__law_draw : Has P w K mg base 2 "_law_draw" ["_law_well_here", "_law_many"] spDraw) : FnOk P w K mg base CX0 3 f fd ["_law_well_here", "_law_many"] spNames := by
  refine F.ok sc__law_names (fun vs H Q E h => ?_) (fun cdv A outer s0 H vs Q E hr h => ?_)
  · obtain ⟨s, n, rfl, _⟩ := h; rfl
  obtain ⟨s, n, rfl, hn, hs, qq⟩ := h
  refine ⟨_, PSs.nox (pss_cons (ps_set (i := 2) sc__law_names.nd rfl (.inr rfl) pe_str)
  (pss_cons (ps_set (i := 3) sc__law_names.nd rfl (.inr rfl) (pe_split pe_str pe_str))
  (pss_cons (ps_set (i := 4) sc__law_names.nd rfl (.inr rfl) (pe_callH h__law_draw (hr.mono (by decide)) (by rfl) (pa_cons (pv 0) (pa_cons pe_int pa_nil))))
  (pss_cons (ps_set (i := 5) sc__law_names.nd rfl (.inl rfl) (pe_callH h__law_draw (hr.mono (by decide)) (by rfl) (pa_cons (pv 0) (pa_cons pe_int pa_nil))))
  (pss_cons (ps_if (pt_cmpR op_eq (pv 5) pe_int (nomark _))
    (pss_one (ps_ret (pe_lc (own := [("_law_k", 8)]) (g := (gName 8)) (by rfl) sc__law_names.nd (pi_range1 (by rfl) m_range (pa_cons (pv 1) pa_nil)) (blkOk_by (own := [("_law_k", 8)]) (N := ["_law_well_here", "_law_many", "_law_letters", "_law_words", "_law_shift", "_law_way", "_law_stem", "_law_at", "_law_k"]) (sc := defScope s__law_names) (by decide +kernel)) (fun _ _ _ _ _ => (pg_name (i := 8) sc__law_names.nd rfl (.inl rfl))) (fun _ _ _ _ _ => pts_nil) (fun _ _ _ _ _ => (pe_ix (ix_listE K) (pv 3) (pe_op op_modN (pe_op op_add (pv 4) (pv 8)) pe_int) (fun _ _ => rfl))))))
    pss_nil)
  (pss_cons (ps_if (pt_cmpR op_eq (pv 5) pe_int (nomark _))
    (pss_one (ps_ret (pe_lc (own := [("_law_k", 8)]) (g := (gName 8)) (by rfl) sc__law_names.nd (pi_range1 (by rfl) m_range (pa_cons (pv 1) pa_nil)) (blkOk_by (own := [("_law_k", 8)]) (N := ["_law_well_here", "_law_many", "_law_letters", "_law_words", "_law_shift", "_law_way", "_law_stem", "_law_at", "_law_k"]) (sc := defScope s__law_names) (by decide +kernel)) (fun _ _ _ _ _ => (pg_name (i := 8) sc__law_names.nd rfl (.inl rfl))) (fun _ _ _ _ _ => pts_nil) (fun _ _ _ _ _ => (pe_op op_repS (pe_ix ix_str (pv 2) (pv 4) (fun _ _ => rfl)) (pe_op op_add (pv 8) pe_int))))))
    pss_nil)
  (pss_cons (ps_set (i := 6) sc__law_names.nd rfl (.inr rfl) (pe_join pe_str (pe_lc (own := [("_law_k", 8)]) (g := (gName 8)) (by rfl) sc__law_names.nd (pi_range1 (by rfl) m_range (pa_cons (pe_callH h__law_draw (hr.mono (by decide)) (by rfl) (pa_cons (pv 0) (pa_cons pe_int pa_nil))) pa_nil)) (blkOk_by (own := [("_law_k", 8)]) (N := ["_law_well_here", "_law_many", "_law_letters", "_law_words", "_law_shift", "_law_way", "_law_stem", "_law_at", "_law_k"]) (sc := defScope s__law_names) (by decide +kernel)) (fun _ _ _ _ _ => (pg_name (i := 8) sc__law_names.nd rfl (.inl rfl))) (fun _ _ _ _ _ => pts_nil) (fun _ _ _ _ _ => (pe_ix ix_str (pv 2) (pe_callH h__law_draw (hr.mono (by decide)) (by rfl) (pa_cons (pv 0) (pa_cons pe_int pa_nil))) (fun _ _ => rfl))))))
  (pss_cons (ps_set (i := 7) sc__law_names.nd rfl (.inr rfl) (pe_callH h__law_draw (hr.mono (by decide)) (by rfl) (pa_cons (pv 0) (pa_cons (pe_op op_add (pe_callB (call_lenE K) (by rfl) m_len (by decide +kernel) (pa_cons (pv 6) pa_nil)) pe_int) pa_nil))))
  (pss_one (ps_ret (pe_lc (own := [("_law_k", 8)]) (g := (gName 8)) (by rfl) sc__law_names.nd (pi_range1 (by rfl) m_range (pa_cons (pv 1) pa_nil)) (blkOk_by (own := [("_law_k", 8)]) (N := ["_law_well_here", "_law_many", "_law_letters", "_law_words", "_law_shift", "_law_way", "_law_stem", "_law_at", "_law_k"]) (sc := defScope s__law_names) (by decide +kernel)) (fun _ _ _ _ _ => (pg_name (i := 8) sc__law_names.nd rfl (.inl rfl))) (fun _ _ _ _ _ => pts_nil) (fun _ _ _ _ _ => (pe_op op_add_str (pe_op op_add_str (pe_slice sl_str (pv 6) po_none (po_some (pv 7))) (pe_ix ix_str (pv 2) (pe_op op_modN (pe_op op_add (pv 4) (pe_op op_mulA pe_int (pv 8))) pe_int) (fun _ _ => rfl))) (pe_slice sl_str (pv 6) (po_some (pv 7)) po_none)))))))))))))), ?_⟩
  walk_at "zz"
  refine ⟨⟨_, rfl⟩, _, _, rfl, rfl, by decide +kernel, Nat.le_of_lt (small1000 (by decide +kernel)), fun lw nw => ?_⟩
  rw [split13]
  have ew : Same H (upd H lw (.lst (W13.map V.str))) := same_upd nw
  generalize hH1 : upd H lw (.lst (W13.map V.str)) = H1 at ew
  have hw1 : H1 lw = some (.lst (W13.map V.str)) := by rw [← hH1]; exact upd_same
  walk_at "zz"
  refine ⟨s, _, rfl, by decide, by decide +kernel, hs.same ew, fun r2 H2 r20 r21 d2 => ?_⟩
  obtain ⟨sh, rfl⟩ : ∃ j : Nat, r2 = (j : Int) := ⟨r2.toNat, by omega⟩
  walk_at "zz"
  refine ⟨s, _, rfl, by decide, by decide +kernel, d2.src, fun r3 H3 r30 r31 d3 => ?_⟩
  have nws : lw ≠ s := hs.ne nw
  have D3 : Dr s H H3 := (Dr.of_same hs ew).trans (d2.trans d3)
  have hw3 := (d2.trans d3).keep _ _ nws hw1
  have fin : ∀ {H' : Hp} {Dl : Addr} {G : Nat → Str}, H Dl = none → Dr s H H' → H' Dl = some (.lst (((List.range n).map G).map V.str)) → (∀ i j, i < n → j < n → G i = G j → i = j) → (∀ i, i < n → nmB (G i) = true) → (∀ i j, ¬ (G i = "strange" ∧ G j = "unheard")) → Q (.ref Dl) H' := fun {H' Dl G} nD dd hD inj nm ap => by
    refine qq Dl _ H' nD hD (by simp) (nd_range inj) (fun z hz => ?_) (fun hz => ?_) dd
    · obtain ⟨i, hi, rfl⟩ := List.mem_map.mp hz
      exact nm i (List.mem_range.mp hi)
    · obtain ⟨i, _, ei⟩ := List.mem_map.mp hz.1
      obtain ⟨j, _, ej⟩ := List.mem_map.mp hz.2
      exact ap i j ⟨ei, ej⟩
  have back : ∀ {H' : Hp} {Dl : Addr}, Dr s H H' → H' Dl = none → H Dl = none := fun {H' Dl} dd nD => by
    cases e : H Dl with
    | none => rfl
    | some o =>
      by_cases z : Dl = s
      · obtain ⟨x1, x2, x3, hz⟩ := dd.src
        rw [z, hz] at nD
        cases nD
      · rw [dd.keep _ _ z e] at nD
        cases nD
  walk_at "zz"
  refine z_ite (fun h0 => ?_) (fun h0 => ?_)
  · walk_at "zz"
    show iRng1 _ _ _ _
    walk_at "zz"
    refine ⟨_, rfl, by omega, by omega, fun Dl nD => lc_range (lo := 0) (n := n) (fun i H' => Same H3 H' ∧ H' Dl = some (.lst (((List.range i).map fun k => wd ((sh + k) % 13)).map V.str))) ⟨same_upd nD, upd_same⟩ ?_ ?_⟩
    · rintro i H4 hi ⟨e4, hD⟩
      refine ⟨rfl, ?_⟩
      walk_at "zz"
      refine z_ixL (SqL.of (e4 _ _ hw3)) (at_of (j := (sh + i) % 13) ?_ (wd_at (Nat.mod_lt _ (by decide)))) ?_
      · rw [Int.fmod_eq_emod_of_nonneg _ (by decide)]
        omega
      refine ⟨_, hD, small1000 (by simp; omega), fun b o hb => by rw [upd_ne (ne_of_none hb nD)]; exact e4 _ _ hb, ?_⟩
      rw [upd_same, List.range_succ, List.map_append, List.map_append]
      rfl
    · rintro H4 ⟨e4, hD⟩
      exact fin (back D3 nD) (D3.trans (Dr.of_same D3.src e4)) hD (fun i j hi hj e => by
        have := wd_inj _ (Nat.mod_lt _ (by decide)) _ (Nat.mod_lt _ (by decide)) e
        omega) (fun i hi => wd_nm _ (Nat.mod_lt _ (by decide))) (fun i j z => wd_no _ (Nat.mod_lt _ (by decide)) z.1)
  · walk_at "zz"
    refine z_ite (fun h1 => ?_) (fun h1 => ?_)
    · walk_at "zz"
      show iRng1 _ _ _ _
      walk_at "zz"
      refine ⟨_, rfl, by omega, by omega, fun Dl nD => lc_range (lo := 0) (n := n) (fun i H' => Same H3 H' ∧ H' Dl = some (.lst (((List.range i).map fun k => (⟨Array.replicate (k + 1) (97 + sh)⟩ : Str)).map V.str))) ⟨same_upd nD, upd_same⟩ ?_ ?_⟩
      · rintro i H4 hi ⟨e4, hD⟩
        refine ⟨rfl, ?_⟩
        walk_at "zz"
        refine ⟨_, _, 97 + sh, rfl, rfl, Nat.le_of_lt (small1000 (by decide +kernel)), atI_nat (letter_at sh (by omega)), ?_⟩
        walk_at "zz"
        refine ⟨97 + sh, _, rfl, rfl, by omega, by omega, ?_⟩
        rw [show ((0 : Int) + (i : Int) + 1).toNat = i + 1 by omega]
        refine ⟨_, hD, small1000 (by simp; omega), fun b o hb => by rw [upd_ne (ne_of_none hb nD)]; exact e4 _ _ hb, ?_⟩
        rw [upd_same, List.range_succ, List.map_append, List.map_append]
        rfl
      · rintro H4 ⟨e4, hD⟩
        exact fin (back D3 nD) (D3.trans (Dr.of_same D3.src e4)) hD (fun i j hi hj e => by
          have e2 : (Array.replicate (i + 1) (97 + sh)).size = (Array.replicate (j + 1) (97 + sh)).size := congrArg (fun z : Str => z.cps.size) e
          rw [Array.size_replicate, Array.size_replicate] at e2
          omega) (fun i hi => nm_rep (letter_sm (by omega)) (by omega) (by omega)) (fun i j z => apart_rep z.1)
    · walk_at "zz"
      refine ⟨⟨_, rfl⟩, ?_⟩
      refine ⟨_, rfl, s, _, rfl, by decide, by decide +kernel, d3.src, fun r4 H4 r40 r41 d4 => ?_⟩
      have D4 := D3.trans d4
      refine ⟨_, rfl, by omega, by omega, fun Dl nD => lc_range (lo := 0) (n := r4.toNat) (fun i H' => Dr s H4 H' ∧ ∃ ws : List Str, H' Dl = some (.lst (ws.map V.str)) ∧ ws.length = i ∧ ∀ y ∈ ws, y.length ≤ 1 ∧ y.cps.toList.all smB = true) ?_ ?_ ?_⟩
      · exact ⟨Dr.of_same d4.src (same_upd nD), [], upd_same, rfl, fun y h => by cases h⟩
      · rintro i H5 hi ⟨d5, ws, hD5, hl, hw⟩
        refine ⟨rfl, ?_⟩
        walk_at "zz"
        refine ⟨s, _, rfl, by decide, by decide +kernel, d5.src, fun r6 H6 r60 r61 d6 => ?_⟩
        obtain ⟨j, rfl⟩ : ∃ j : Nat, r6 = (j : Int) := ⟨r6.toNat, by omega⟩
        have nDs : Dl ≠ s := d4.src.ne nD
        have hD6 := d6.keep _ _ nDs hD5
        refine ⟨_, _, 97 + j, rfl, rfl, Nat.le_of_lt (small1000 (by decide +kernel)), atI_nat (letter_at j (by omega)), ?_⟩
        refine ⟨_, hD6, small1000 (by rw [List.length_map]; omega), ?_, ws ++ [⟨#[97 + j]⟩], ?_, by simp [hl], fun y hy => ?_⟩
        · have d56 := d5.trans d6
          refine ⟨fun b u nb hb => ?_, ?_, d4.src⟩
          · rw [upd_ne (ne_of_none hb nD)]
            exact d56.keep _ _ nb hb
          · obtain ⟨x, y, z, hh⟩ := d56.src
            exact ⟨x, y, z, by rw [upd_ne nDs.symm]; exact hh⟩
        · rw [upd_same, List.map_append]
          rfl
        · rcases List.mem_append.mp hy with h | h
          · exact hw y h
          · rw [List.mem_singleton.mp h]
            refine ⟨Nat.le_refl 1, ?_⟩
            show (smB (97 + j) && true) = true
            rw [letter_sm (by omega)]
            rfl
      · rintro H5 ⟨d5, ws, hD5, hl, hw⟩
        have hj := join_len fun y hy => (hw y hy).1
        have hsum := sum_ones fun y hy => (hw y hy).1
        have hal : (Txt.join "" ws).cps.toList.all smB = true := by
          rw [TL.join_eq]
          exact all_join ws fun y hy => (hw y hy).2
        refine ⟨_, Dl, ws, rfl, rfl, .inl (SqL.of hD5), by
          have h0 : ("" : Str).length = 0 := rfl
          rw [h0, Nat.mul_zero]
          omega, ?_⟩
        generalize Txt.join "" ws = z at *
        walk_at "zz"
        refine z_lenS (by omega) ?_
        walk_at "zz"
        refine ⟨s, _, rfl, by omega, Nat.lt_of_le_of_lt (m := 1000) (by omega) (by decide +kernel), d5.src, fun r7 H7 r70 r71 d7 => ?_⟩
        obtain ⟨at7, rfl⟩ : ∃ j : Nat, r7 = (j : Int) := ⟨r7.toNat, by omega⟩
        have D7 := D4.trans (d5.trans d7)
        have c1 := cut_sum z at7 (by omega)
        have a1 := all_cut hal none (some (at7 : Int))
        have a2 := all_cut hal (some (at7 : Int)) none
        walk_at "zz"
        show iRng1 _ _ _ _
        walk_at "zz"
        refine ⟨_, rfl, by omega, by omega, fun Dl nD => lc_range (lo := 0) (n := n) (fun i H' => Same H7 H' ∧ H' Dl = some (.lst (((List.range i).map fun k => cutS z none (some (at7 : Int)) ++ ⟨#[97 + (sh + 3 * k) % 26]⟩ ++ cutS z (some (at7 : Int)) none).map V.str))) ⟨same_upd nD, upd_same⟩ ?_ ?_⟩
        · rintro i H8 hi ⟨e8, hD⟩
          refine ⟨rfl, ?_⟩
          walk_at "zz"
          refine z_cutS (by omega) ?_
          walk_at "zz"
          refine z_mulA (mulL (by decide)) ?_
          walk_at "zz"
          have hlt : (sh + 3 * i) % 26 < 26 := Nat.mod_lt _ (by decide)
          have ez : ((sh : Int) + 3 * (0 + (i : Int))).fmod 26 = (((sh + 3 * i) % 26 : Nat) : Int) := by
            rw [Int.fmod_eq_emod_of_nonneg _ (by decide)]
            omega
          refine ⟨_, _, 97 + (sh + 3 * i) % 26, rfl, rfl, Nat.le_of_lt (small1000 (by decide +kernel)), by rw [ez]; exact atI_nat (letter_at _ hlt), ?_⟩
          have l1 : (⟨#[97 + (sh + 3 * i) % 26]⟩ : Str).length = 1 := rfl
          refine ⟨_, _, rfl, rfl, Nat.le_of_lt (small1000 (by omega)), ?_⟩
          walk_at "zz"
          refine z_cutS (by omega) ?_
          refine ⟨_, _, rfl, rfl, Nat.le_of_lt (small1000 (by rw [Str.length_append]; omega)), ?_⟩
          refine ⟨_, hD, small1000 (by simp; omega), fun b o hb => by rw [upd_ne (ne_of_none hb nD)]; exact e8 _ _ hb, ?_⟩
          rw [upd_same, List.range_succ, List.map_append, List.map_append]
          rfl
        · rintro H8 ⟨e8, hD⟩
          exact fin (back D7 nD) (D7.trans (Dr.of_same D7.src e8)) hD (fun i j hi hj e => by
            have := inj_mid e
            omega) (fun i hi => nm_mid a1 a2 (letter_sm (Nat.mod_lt _ (by decide))) (by omega)) (fun i j z => apart_mid z)
def spNumbers : Sp := fun vs H Q _ => ∃ (s : Addr) (n : Nat), vs = [.ref s, .int (n : Int)] ∧ n ≤ 100 ∧ Src H s ∧ ∀ (p : Addr) (ns : List Int) (H' : Hp), H' p = some (.tup (ns.map V.int)) → ns.length = n → (∀ x ∈ ns, inFar x = true) → Dr s H H' → Q (.ref p) H'
theorem ok__law_numbers {f : Addr} {fd : FuncData} (F : FnP K "_law_numbers" s__law_numbers f fd) (m_range : mg "range" = none) (m_tuple : mg "tuple" = none) (h__law_draw : Has P w K mg base 2 "_law_draw" ["_law_well_here", "_law_many"] spDraw) : FnOk P w K mg base CX0 3 f fd ["_law_well_here", "_law_size"] spNumbers := by
  refine F.ok sc__law_numbers (fun vs H Q E h => ?_) (fun cdv A outer s0 H vs Q E hr h => ?_)
  · obtain ⟨s, n, rfl, _⟩ := h; rfl
  obtain ⟨s, n, rfl, hn, hs, q⟩ := h
  refine ⟨_, PSs.nox (pss_cons (ps_set (i := 2) sc__law_numbers.nd rfl (.inl rfl) (pe_lst pa_nil))
  (pss_cons (ps_for PassesOwn.never rfl (pi_range1 (by rfl) m_range (pa_cons (pv 1) pa_nil)) (pg_name (i := 3) sc__law_numbers.nd rfl (.inl rfl))
    (pss_cons (ps_set (i := 4) sc__law_numbers.nd rfl (.inl rfl) (pe_lst (pa_cons pe_int (pa_cons (pe_op op_sub (pe_callH h__law_draw (hr.mono (by decide)) (by rfl) (pa_cons (pv 0) (pa_cons pe_int pa_nil))) pe_int) (pa_cons (pe_op op_pow pe_int pe_int) (pa_cons (pe_op op_sub pe_int (pe_op op_pow pe_int pe_int)) pa_nil))))))
  (pss_cons (ps_set (i := 4) sc__law_numbers.nd rfl (.inl rfl) (pe_op op_cat (pv 4) (pe_lst (pa_cons (pe_op op_sub (pe_callH h__law_draw (hr.mono (by decide)) (by rfl) (pa_cons (pv 0) (pa_cons (pe_op op_add (pe_op op_mulA pe_int (pe_op op_pow pe_int pe_int)) pe_int) pa_nil))) (pe_op op_pow pe_int pe_int)) pa_nil))))
  (pss_one (ps_expr (pe_bm PySem.F.plainAttrs_list PySem.F.slot_list_append PySem.F.type_list_append mt_append (pv 2) (pa_cons (pe_ix (ix_listE K) (pv 4) (pe_callH h__law_draw (hr.mono (by decide)) (by rfl) (pa_cons (pv 0) (pa_cons pe_int pa_nil))) (fun _ _ => rfl)) pa_nil)))))))
  (pss_one (ps_ret (pe_callTy (call_tupleE K) (by rfl) m_tuple (by decide +kernel) (pa_cons (pv 2) pa_nil)))))), ?_⟩
  walk_at "zz"
  refine z_new (by simp) (fun l1 H1 n1 e1 h1 => ?_)
  walk_at "zz"
  have l1s : l1 ≠ s := hs.ne n1
  refine ⟨_, rfl, by omega, by omega, for_range (lo := 0) (n := n) (fun i σ H' => (∃ y3 y4, σ = [some (.ref s), some (.int (n : Int)), some (.ref l1), y3, y4]) ∧ (∀ b o, b ≠ s → b ≠ l1 → H b = some o → H' b = some o) ∧ Src H' s ∧ ∃ ns : List Int, H' l1 = some (.lst (ns.map V.int)) ∧ ns.length = i ∧ ∀ x ∈ ns, inFar x = true) ⟨⟨_, _, rfl⟩, fun b o nb _ hb => e1 _ _ hb, hs.same e1, [], h1, rfl, fun x h => by cases h⟩ ?_ ?_⟩
  · rintro i σ H3 hi ⟨⟨y3, y4, rfl⟩, k3, r3, ns, h3, hl, hns⟩
    walk_at "zz"
    refine ⟨s, _, rfl, by decide, by decide +kernel, r3, fun r4 H4 r40 r41 d4 => ?_⟩
    walk_at "zz"
    refine z_new (by simp) (fun l5 H5 n5 e5 h5 => ?_)
    walk_at "zz"
    refine z_mulA (mulL (by decide)) ?_
    walk_at "zz"
    refine ⟨s, _, rfl, by decide, by decide +kernel, d4.src.same e5, fun r6 H6 r60 r61 d6 => ?_⟩
    walk_at "zz"
    refine z_new (by simp) (fun l7 H7 n7 e7 h7 => ?_)
    have l5s := d4.src.ne n5
    refine z_cat (e7 _ _ (d6.keep _ _ l5s h5)) h7 (by simp) (fun l8 H8 n8 e8 h8 => ?_)
    have d38 : Dr s H3 H7 := d4.trans ((Dr.of_same d4.src e5).trans (d6.trans (Dr.of_same d6.src e7)))
    have d38' : Dr s H3 H8 := d38.trans (Dr.of_same d38.src e8)
    walk_at "zz"
    have h18 := d38'.keep _ _ l1s h3
    refine ⟨.inl ⟨rfl, _, SqL.of h18⟩, ?_⟩
    walk_at "zz"
    refine ⟨s, _, rfl, by decide, by decide +kernel, d38'.src, fun r9 H9 r90 r91 d9 => ?_⟩
    have h89 := d9.keep _ _ (d38.src.ne n8) h8
    have h19 := d9.keep _ _ l1s h18
    have e12 : (10 : Int) ^ Int.toNat 12 = 1000000000000 := by decide
    rw [e12] at r61
    obtain ⟨n, hn, hfar⟩ : ∃ n : Int, atI ([V.int 0, V.int (r4 - 5), V.int (10 ^ Int.toNat 12), V.int (0 - 10 ^ Int.toNat 12)] ++ [V.int (r6 - 10 ^ Int.toNat 12)]) r9 = some (.int n) ∧ inFar n = true := by
      have far : ∀ {x : Int}, -1000000000000 ≤ x → x ≤ 1000000000000 → inFar x = true := fun h1 h2 => by
        unfold inFar
        rw [decide_eq_true h1, decide_eq_true h2]
        rfl
      rw [e12]
      rcases (show r9 = 0 ∨ r9 = 1 ∨ r9 = 2 ∨ r9 = 3 ∨ r9 = 4 by omega) with rfl | rfl | rfl | rfl | rfl
      · exact ⟨_, rfl, far (by omega) (by omega)⟩
      · exact ⟨_, rfl, far (by omega) (by omega)⟩
      · exact ⟨_, rfl, far (by omega) (by omega)⟩
      · exact ⟨_, rfl, far (by omega) (by omega)⟩
      · exact ⟨_, rfl, far (by omega) (by omega)⟩
    refine z_ixL (SqL.of h89) hn ?_
    have d39 := d38'.trans d9
    refine ⟨l1, _, _, rfl, rfl, h19, small1000 (by rw [List.length_map]; omega), ⟨_, _, rfl⟩, fun b o nb nl hb => by rw [upd_ne nl]; exact d39.keep _ _ nb (k3 b o nb nl hb), ?_, ns ++ [n], by rw [upd_same, List.map_append]; rfl, by simp [hl], fun x hx => ?_⟩
    · obtain ⟨x, y, z, hz⟩ := d39.src
      exact ⟨x, y, z, by rw [upd_ne l1s.symm]; exact hz⟩
    · rcases List.mem_append.mp hx with h | h
      · exact hns x h
      · rw [List.mem_singleton.mp h]; exact hfar
  · rintro σ H3 ⟨⟨y3, y4, rfl⟩, k3, r3, ns, h3, hl, hns⟩
    walk_at "zz"
    refine z_tupleL h3 (fun r H4 n4 e4 h4 => ?_)
    exact q r ns _ h4 hl hns ⟨fun b o nb hb => e4 _ _ (k3 b o nb (ne_of_none hb n1) hb), r3.same e4, hs⟩
theorem lex_tri : ∀ a b : List Nat, a < b ∨ a = b ∨ b < a
  | [], [] => .inr (.inl rfl)
  | [], _ :: _ => .inl List.Lex.nil
  | _ :: _, [] => .inr (.inr List.Lex.nil)
  | x :: a, y :: b => by
    rcases Nat.lt_trichotomy x y with h | h | h
    · exact .inl (List.Lex.rel h)
    · subst h
      rcases lex_tri a b with h | h | h
      · exact .inl (List.Lex.cons h)
      · exact .inr (.inl (by rw [h]))
      · exact .inr (.inr (List.Lex.cons h))
    · exact .inr (.inr (List.Lex.rel h))
theorem lex_asym : ∀ a b : List Nat, a < b → ¬ b < a
  | [], _, _, h => by cases h
  | x :: a, [], h, _ => by cases h
  | x :: a, y :: b, h, g => by
    cases h with
    | rel h =>
      cases g with
      | rel g => omega
      | cons g => omega
    | cons h =>
      cases g with
      | rel g => omega
      | cons g => exact lex_asym a b h g
theorem str_ext {x y : Str} (h : x.cps.toList = y.cps.toList) : x = y := by
  cases x; cases y
  exact congrArg Str.mk (Array.ext' h)
theorem low_top (x y : Str) : (lowS x y = x ∧ topS2 x y = y) ∨ (lowS x y = y ∧ topS2 x y = x) := by
  unfold lowS topS2 sLt
  rcases lex_tri x.cps.toList y.cps.toList with h | h | h
  · have n := lex_asym _ _ h
    rw [decide_eq_true h, decide_eq_false n]
    exact .inl ⟨rfl, rfl⟩
  · have e := str_ext h
    subst e
    simp
  · have n := lex_asym _ _ h
    rw [decide_eq_true h, decide_eq_false n]
    exact .inr ⟨rfl, rfl⟩
theorem tk2_inj {x y x' y' : Str} (h : tk2 x y = tk2 x' y') : (x = x' ∧ y = y') ∨ (x = y' ∧ y = x') := by
  unfold tk2 at h
  injection h with h1 h2
  injection h2 with h2 _
  injection h1 with h1
  injection h2 with h2
  rcases low_top x y with ⟨a, b⟩ | ⟨a, b⟩ <;> rcases low_top x' y' with ⟨c, d⟩ | ⟨c, d⟩ <;> rw [a, c] at h1 <;> rw [b, d] at h2
  · exact .inl ⟨h1, h2⟩
  · exact .inr ⟨h1, h2⟩
  · exact .inr ⟨h2, h1⟩
  · exact .inl ⟨h2, h1⟩
structure TInv (zs : List Str) (T : List TieR) (k j : Nat) : Prop where
  pl : ∀ m ∈ T, ∃ a b x y, b < a ∧ (a < k ∨ (a = k ∧ b < j)) ∧ zs[a]? = some x ∧ zs[b]? = some y ∧ (m.2 = (x, y) ∨ m.2 = (y, x))
  nd : (tks T).Nodup
  few : T.length ≤ 7 * k + j
theorem nd_ix {zs : List Str} (nd : zs.Nodup) {i j : Nat} {x : Str} (h : zs[i]? = some x) (g : zs[j]? = some x) : i = j := by
  obtain ⟨hi, e⟩ := List.getElem?_eq_some_iff.mp h
  obtain ⟨hj, e2⟩ := List.getElem?_eq_some_iff.mp g
  rcases Nat.lt_trichotomy i j with z | z | z
  · exact absurd (e.trans e2.symm) (List.pairwise_iff_getElem.mp nd i j hi hj z)
  · exact z
  · exact absurd (e2.trans e.symm) (List.pairwise_iff_getElem.mp nd j i hj hi z)
theorem TInv.snoc {zs : List Str} {T : List TieR} {k j : Nat} (h : TInv zs T k j) (nd : zs.Nodup) (hj : j < k) {x y : Str} (hx : zs[k]? = some x) (hy : zs[j]? = some y) {p : Addr} {u v : Str} (hm : (u, v) = (x, y) ∨ (u, v) = (y, x)) : TInv zs (T ++ [(p, u, v)]) k (j + 1) where
  pl := fun m mm => by
    rcases List.mem_append.mp mm with mm | mm
    · obtain ⟨a, b, x', y', h1, h2, h3⟩ := h.pl m mm
      exact ⟨a, b, x', y', h1, by omega, h3⟩
    · rw [List.mem_singleton.mp mm]
      exact ⟨k, j, x, y, hj, by omega, hx, hy, hm⟩
  nd := by
    show (List.map _ _).Nodup
    rw [List.map_append]
    refine List.nodup_append.mpr ⟨h.nd, by simp, fun c hc d hd e => ?_⟩
    have hd' : d = tk2 u v := by simpa using hd
    rw [hd'] at e
    obtain ⟨m, mm, rfl⟩ := List.mem_map.mp hc
    obtain ⟨a, b, x', y', h1, h2, ha, hb, hs⟩ := h.pl m mm
    have sw : (x' = x ∧ y' = y) ∨ (x' = y ∧ y' = x) := by
      have q := tk2_inj e
      rcases hs with hs | hs <;> rw [hs] at q <;> rcases hm with hm | hm <;> injection hm with m1 m2 <;> rw [m1, m2] at q <;> rcases q with ⟨q1, q2⟩ | ⟨q1, q2⟩
      · exact .inl ⟨q1, q2⟩
      · exact .inr ⟨q1, q2⟩
      · exact .inr ⟨q1, q2⟩
      · exact .inl ⟨q1, q2⟩
      · exact .inr ⟨q2, q1⟩
      · exact .inl ⟨q2, q1⟩
      · exact .inl ⟨q2, q1⟩
      · exact .inr ⟨q2, q1⟩
    rcases sw with ⟨rfl, rfl⟩ | ⟨rfl, rfl⟩
    · have e1 := nd_ix nd ha hx
      have e2 := nd_ix nd hb hy
      omega
    · have e1 := nd_ix nd ha hy
      have e2 := nd_ix nd hb hx
      omega
  few := by
    have := h.few
    rw [List.length_append, List.length_singleton]
    omega
theorem TInv.up {zs : List Str} {T : List TieR} {k j : Nat} (h : TInv zs T k j) {k' j' : Nat} (hk : k < k' ∨ (k = k' ∧ j ≤ j')) (hf : 7 * k + j ≤ 7 * k' + j') : TInv zs T k' j' :=
  ⟨fun m mm => by
    obtain ⟨a, b, x, y, h1, h2, h3⟩ := h.pl m mm
    exact ⟨a, b, x, y, h1, by omega, h3⟩, h.nd, Nat.le_trans h.few hf⟩
theorem TInv.ok {zs : List Str} {T : List TieR} {k : Nat} (h : TInv zs T k 0) (hk : k ≤ 8) (nd : zs.Nodup) (nm : ∀ z ∈ zs, nmB z = true) : TiesOk zs T where
  few := by
    have := h.few
    omega
  nm := fun m mm => by
    obtain ⟨a, b, x, y, h1, h2, ha, hb, hs⟩ := h.pl m mm
    have ix := nm x (List.mem_of_getElem? ha)
    have iy := nm y (List.mem_of_getElem? hb)
    have ne : x ≠ y := fun e => by
      rw [e] at ha
      have := nd_ix nd ha hb
      omega
    rcases hs with hs | hs <;> rw [hs]
    · exact ⟨ix, iy, ne⟩
    · exact ⟨iy, ix, ne.symm⟩
  mem := fun m mm => by
    obtain ⟨a, b, x, y, h1, h2, ha, hb, hs⟩ := h.pl m mm
    have ix := List.mem_of_getElem? ha
    have iy := List.mem_of_getElem? hb
    rcases hs with hs | hs <;> rw [hs]
    · exact ⟨ix, iy⟩
    · exact ⟨iy, ix⟩
  nd := h.nd
theorem TiesOk.perm {zs : List Str} {T T' : List TieR} (h : TiesOk zs T) (p : T'.Perm T) : TiesOk zs T' :=
  ⟨by rw [p.length_eq]; exact h.few, fun m mm => h.nm m (p.mem_iff.mp mm), fun m mm => h.mem m (p.mem_iff.mp mm), (p.map _).nodup_iff.mpr h.nd⟩
theorem cut_from {α : Type} (f : α → V) (l : List α) (a : Nat) (h : a ≤ l.length) : cutV (l.map f) (some (a : Int)) none = (l.drop a).map f := by
  unfold cutV
  rw [HT.sIx_nat, HT.sIx_none, List.length_map, Nat.min_eq_left h, ← List.map_drop]
  exact List.take_of_length_le (by rw [List.length_map, List.length_drop]; omega)
theorem cut_to {α : Type} (f : α → V) (l : List α) (a : Nat) (h : a ≤ l.length) : cutV (l.map f) none (some (a : Int)) = (l.take a).map f := by
  unfold cutV
  rw [HT.sIx_nat, HT.sIx_none, List.length_map, Nat.min_eq_left h, List.drop_zero, Nat.sub_zero, ← List.map_take]
def spTiesL : Sp := fun vs H Q _ => ∃ (s nl : Addr) (zs : List Str) (sh : Int), vs = [.ref s, .ref nl, .int sh] ∧ Src H s ∧ H nl = some (.lst (zs.map V.str)) ∧ nl ≠ s ∧ zs.length ≤ 8 ∧ zs.Nodup ∧ (∀ z ∈ zs, nmB z = true) ∧ ∀ r T H', H r = none → Ties H' r T → TiesOk zs T → Dr s H H' → Q (.ref r) H'
theorem ok__law_ties {f : Addr} {fd : FuncData} (F : FnP K "_law_ties" s__law_ties f fd) (m_len : mg "len" = none) (m_range : mg "range" = none) (h__law_draw : Has P w K mg base 2 "_law_draw" ["_law_well_here", "_law_many"] spDraw) : FnOk P w K mg base CX0 3 f fd ["_law_well_here", "_law_names_here", "_law_share"] spTiesL := by
  refine F.ok sc__law_ties (fun vs H Q E h => ?_) (fun cdv A outer s0 H vs Q E hr h => ?_)
  · obtain ⟨s, nl, zs, sh, rfl, _⟩ := h; rfl
  obtain ⟨s, nl, zs, sh, rfl, hs, hn, nls, h8, nd, nm, qq⟩ := h
  refine ⟨_, PSs.nox (pss_cons (ps_set (i := 3) sc__law_ties.nd rfl (.inl rfl) (pe_lst pa_nil))
  (pss_cons (ps_for PassesOwn.never rfl (pi_range1 (by rfl) m_range (pa_cons (pe_callB (call_lenE K) (by rfl) m_len (by decide +kernel) (pa_cons (pv 1) pa_nil)) pa_nil)) (pg_name (i := 4) sc__law_ties.nd rfl (.inl rfl))
    (pss_one (ps_for PassesOwn.never rfl (pi_range1 (by rfl) m_range (pa_cons (pv 4) pa_nil)) (pg_name (i := 5) sc__law_ties.nd rfl (.inl rfl))
    (pss_one (ps_if (pt_cmpR op_lt (pe_callH h__law_draw (hr.mono (by decide)) (by rfl) (pa_cons (pv 0) (pa_cons pe_int pa_nil))) (pv 2) (nomark _))
    (pss_one (ps_expr (pe_bm PySem.F.plainAttrs_list PySem.F.slot_list_append PySem.F.type_list_append mt_append (pv 3) (pa_cons (pe_ix (ix_listE K) (pe_lst (pa_cons (pe_tup (pa_cons (pe_ix (ix_listE K) (pv 1) (pv 4) (fun _ _ => rfl)) (pa_cons (pe_ix (ix_listE K) (pv 1) (pv 5) (fun _ _ => rfl)) pa_nil))) (pa_cons (pe_tup (pa_cons (pe_ix (ix_listE K) (pv 1) (pv 5) (fun _ _ => rfl)) (pa_cons (pe_ix (ix_listE K) (pv 1) (pv 4) (fun _ _ => rfl)) pa_nil))) pa_nil))) (pe_callH h__law_draw (hr.mono (by decide)) (by rfl) (pa_cons (pv 0) (pa_cons pe_int pa_nil))) (fun _ _ => rfl)) pa_nil))))
    pss_nil)))))
  (pss_cons (ps_set (i := 6) sc__law_ties.nd rfl (.inl rfl) (pe_callH h__law_draw (hr.mono (by decide)) (by rfl) (pa_cons (pv 0) (pa_cons (pe_op op_add (pe_callB (call_lenE K) (by rfl) m_len (by decide +kernel) (pa_cons (pv 3) pa_nil)) pe_int) pa_nil))))
  (pss_one (ps_ret (pe_op op_cat (pe_slice (sl_listE K) (pv 3) (po_some (pv 6)) po_none) (pe_slice (sl_listE K) (pv 3) po_none (po_some (pv 6))))))))), ?_⟩
  walk_at "zz"
  refine z_new (by simp) (fun l1 H1 n1 e1 h1 => ?_)
  have l1s : l1 ≠ s := hs.ne n1
  have nl1 : nl ≠ l1 := ne_of_none hn n1
  walk_at "zz"
  refine z_lenL (SqL.of (e1 _ _ hn)) ?_
  walk_at "zz"
  rw [List.length_map]
  refine ⟨_, rfl, by omega, by omega, ?_⟩
  rw [show ((zs.length : Int)).toNat = zs.length by omega]
  refine for_range (lo := 0) (n := zs.length) (fun k σ H' => (∃ y1 y2 y3, σ = [some (.ref s), some (.ref nl), some (.int sh), some (.ref l1), y1, y2, y3]) ∧ (∀ b o, b ≠ s → b ≠ l1 → H b = some o → H' b = some o) ∧ Src H' s ∧ ∃ T : List TieR, Ties H' l1 T ∧ TInv zs T k 0) ⟨⟨_, _, _, rfl⟩, fun b o nb _ hb => e1 _ _ hb, hs.same e1, [], ⟨h1, fun m hm => absurd hm (by simp)⟩, fun m hm => absurd hm (by simp), List.nodup_nil, by simp⟩ ?_ ?_
  · rintro k σ H2 hk ⟨⟨y1, y2, y3, rfl⟩, k2, r2, T, t2, i2⟩
    walk_at "zz"
    refine ⟨_, rfl, by omega, by omega, ?_⟩
    rw [show ((0 : Int) + (k : Int)).toNat = k by omega]
    refine for_range (lo := 0) (n := k) (fun j σ H' => (∃ y2 y3, σ = [some (.ref s), some (.ref nl), some (.int sh), some (.ref l1), some (.int (0 + (k : Int))), y2, y3]) ∧ (∀ b o, b ≠ s → b ≠ l1 → H b = some o → H' b = some o) ∧ Src H' s ∧ ∃ T : List TieR, Ties H' l1 T ∧ TInv zs T k j) ⟨⟨_, _, rfl⟩, k2, r2, T, t2, i2⟩ ?_ ?_
    · rintro j σ H3 hj ⟨⟨y2, y3, rfl⟩, k3, r3, T, t3, i3⟩
      obtain ⟨x, hx⟩ : ∃ x, zs[k]? = some x := ⟨_, List.getElem?_eq_getElem hk⟩
      obtain ⟨y, hy⟩ : ∃ y, zs[j]? = some y := ⟨_, List.getElem?_eq_getElem (by omega)⟩
      have hx' : atI (zs.map V.str) (0 + (k : Int)) = some (.str x) := at_of (j := k) (by omega) (by rw [List.getElem?_map, hx]; rfl)
      have hy' : atI (zs.map V.str) (0 + (j : Int)) = some (.str y) := at_of (j := j) (by omega) (by rw [List.getElem?_map, hy]; rfl)
      walk_at "zz"
      refine ⟨s, _, rfl, by decide, by decide +kernel, r3, fun r4 H4 r40 r41 d4 => ?_⟩
      have keep4 : ∀ b o, b ≠ s → b ≠ l1 → H b = some o → H4 b = some o := fun b o nb nl hb => d4.keep _ _ nb (k3 b o nb nl hb)
      have t4 : Ties H4 l1 T := ⟨d4.keep _ _ l1s t3.lst, fun m hm => d4.tup (t3.tup m hm)⟩
      walk_at "zz"
      refine z_ite (fun h0 => ?_) (fun h0 => ?_)
      · walk_at "zz"
        refine ⟨.inl ⟨rfl, _, SqL.of t4.lst⟩, ?_⟩
        have hn4 := keep4 _ _ nls nl1 hn
        walk_at "zz"
        refine z_ixL (SqL.of hn4) hx' ?_
        walk_at "zz"
        refine z_ixL (SqL.of hn4) hy' ?_
        walk_at "zz"
        refine z_new (by simp) (fun p5 H5 n5 e5 h5 => ?_)
        walk_at "zz"
        refine z_ixL (SqL.of (e5 _ _ hn4)) hy' ?_
        walk_at "zz"
        refine z_ixL (SqL.of (e5 _ _ hn4)) hx' ?_
        walk_at "zz"
        refine z_new (by simp) (fun p6 H6 n6 e6 h6 => ?_)
        walk_at "zz"
        refine z_new (by simp) (fun p7 H7 n7 e7 h7 => ?_)
        have e47 : Same H4 H7 := e5.trans (e6.trans e7)
        walk_at "zz"
        refine ⟨s, _, rfl, by decide, by decide +kernel, d4.src.same e47, fun r8 H8 r80 r81 d8 => ?_⟩
        have h78 := d8.keep _ _ ((d4.src.same (e5.trans e6)).ne n7) h7
        have t8 : Ties H8 l1 T := ⟨d8.keep _ _ l1s (e47 _ _ t4.lst), fun m hm => d8.tup (e47 _ _ (t4.tup m hm))⟩
        have k8 : ∀ b o, b ≠ s → b ≠ l1 → H b = some o → H8 b = some o := fun b o nb nl hb => d8.keep _ _ nb (e47 _ _ (keep4 b o nb nl hb))
        have fin : ∀ {p : Addr} {u v : Str}, H8 p = some (.tup [.str u, .str v]) → ((u, v) = (x, y) ∨ (u, v) = (y, x)) → atI [V.ref p5, V.ref p6] r8 = some (.ref p) → (∃ T : List TieR, Ties (upd H8 l1 (.lst ((T.map fun m => V.ref m.1)))) l1 T ∧ TInv zs T k (j + 1) ∧ ∃ T0 : List TieR, T = T0 ++ [(p, u, v)] ∧ H8 l1 = some (.lst (T0.map fun m => V.ref m.1)) ∧ T0.length ≤ 100) := fun {p u v} hp hm ha => by
          have i9 := i3.snoc nd hj hx hy (p := p) hm
          have f9 := i3.few
          refine ⟨T ++ [(p, u, v)], ⟨upd_same, fun m mm => ?_⟩, i9, T, rfl, t8.lst, by omega⟩
          have tm : H8 m.1 = some (.tup [.str m.2.1, .str m.2.2]) := by
            rcases List.mem_append.mp mm with mm | mm
            · exact t8.tup m mm
            · rw [List.mem_singleton.mp mm]; exact hp
          rw [upd_ne (ne_of tm t8.lst (by intro z; cases z))]
          exact tm
        have two : ∃ p u v, H8 p = some (.tup [.str u, .str v]) ∧ ((u, v) = (x, y) ∨ (u, v) = (y, x)) ∧ atI [V.ref p5, V.ref p6] r8 = some (.ref p) := by
          rcases (show r8 = 0 ∨ r8 = 1 by omega) with rfl | rfl
          · exact ⟨p5, x, y, d8.tup (e7 _ _ (e6 _ _ h5)), .inl rfl, rfl⟩
          · exact ⟨p6, y, x, d8.tup (e7 _ _ h6), .inr rfl, rfl⟩
        obtain ⟨p, u, v, hp, hm, ha⟩ := two
        obtain ⟨T9, t9, i9, T0, rfl, l9, b9⟩ := fin hp hm ha
        refine z_ixL (SqL.of h78) ha ?_
        have eT : (T0 ++ [(p, u, v)]).map (fun m => V.ref m.1) = T0.map (fun m => V.ref m.1) ++ [.ref p] := by rw [List.map_append]; rfl
        rw [eT] at t9
        refine ⟨l1, _, _, rfl, rfl, l9, small1000 (by rw [List.length_map]; omega), ⟨_, _, rfl⟩, fun b o nb nl hb => by rw [upd_ne nl]; exact k8 b o nb nl hb, ?_, _, t9, i9⟩
        obtain ⟨a, b, c, hz⟩ := d8.src
        exact ⟨a, b, c, by rw [upd_ne l1s.symm]; exact hz⟩
      · walk_at "zz"
        exact ⟨⟨_, _, rfl⟩, keep4, d4.src, T, t4, i3.up (.inr ⟨rfl, by omega⟩) (by omega)⟩
    · rintro σ H3 ⟨⟨y2, y3, rfl⟩, k3, r3, T, t3, i3⟩
      exact ⟨⟨_, _, _, rfl⟩, k3, r3, T, t3, i3.up (.inl (by omega)) (by omega)⟩
  · rintro σ H2 ⟨⟨y1, y2, y3, rfl⟩, k2, r2, T, t2, i2⟩
    have ok := i2.ok h8 nd nm
    have few := ok.few
    walk_at "zz"
    refine z_lenL (SqL.of t2.lst) ?_
    walk_at "zz"
    rw [List.length_map]
    refine ⟨s, _, rfl, by omega, Nat.lt_of_le_of_lt (m := 1000) (by omega) (by decide +kernel), r2, fun r3 H3 r30 r31 d3 => ?_⟩
    obtain ⟨a3, rfl⟩ : ∃ j : Nat, r3 = (j : Int) := ⟨r3.toNat, by omega⟩
    have t3 : Ties H3 l1 T := ⟨d3.keep _ _ l1s t2.lst, fun m hm => d3.tup (t2.tup m hm)⟩
    walk_at "zz"
    refine z_slL (SqL.of t3.lst) (fun l4 H4 n4 e4 h4 => ?_)
    walk_at "zz"
    refine z_slL (SqL.of (e4 _ _ t3.lst)) (fun l5 H5 n5 e5 h5 => ?_)
    rw [cut_from _ _ _ (by omega)] at h4
    rw [cut_to _ _ _ (by omega)] at h5
    refine z_cat (e5 _ _ h4) h5 (by rw [List.length_map, List.length_map, List.length_drop, List.length_take]; omega) (fun l6 H6 n6 e6 h6 => ?_)
    rw [← List.map_append] at h6
    have pm : (T.drop a3 ++ T.take a3).Perm T := by
      have z : (T.drop a3 ++ T.take a3).Perm (T.take a3 ++ T.drop a3) := List.perm_append_comm
      rw [List.take_append_drop] at z
      exact z
    have e36 : Same H3 H6 := e4.trans (e5.trans e6)
    have back : ∀ b o, b ≠ s → H b = some o → H6 b = some o := fun b o nb hb => e36 _ _ (d3.keep _ _ nb (k2 b o nb (ne_of_none hb n1) hb))
    refine qq l6 _ H6 ?_ ⟨h6, fun m hm => e36 _ _ (t3.tup m (pm.mem_iff.mp hm))⟩ (ok.perm pm) ⟨back, d3.src.same e36, hs⟩
    cases e : H l6 with
    | none => rfl
    | some o =>
      have ns : l6 ≠ s := (d3.src.same (e4.trans e5)).ne n6
      have z := e5 _ _ (e4 _ _ (d3.keep _ _ ns (k2 _ o ns (ne_of_none e n1) e)))
      rw [n6] at z
      cases z
def spWebL : Sp := fun vs H Q _ => ∃ s, vs = [.ref s, .int 8] ∧ Src H s ∧ ∀ p h t L T n H', H' p = some (.tup [.ref h, .ref t]) → H h = none → Hands H' h L → H t = none → Ties H' t T → HandsOk L n → TiesOk (nmsOf L) T → ¬ (("strange" : Str) ∈ nmsOf L ∧ ("unheard" : Str) ∈ nmsOf L) → Dr s H H' → Q (.ref p) H'
theorem dr_back {s a : Addr} {H H' : Hp} (d : Dr s H H') (n : H' a = none) : H a = none := by
  cases e : H a with
  | none => rfl
  | some o =>
    by_cases z : a = s
    · obtain ⟨x1, x2, x3, hz⟩ := d.src
      rw [z, hz] at n
      cases n
    · rw [d.keep _ _ z e] at n
      cases n
def WInv (s D : Addr) (H0 : Hp) (zs : List Str) (n i : Nat) (H' : Hp) : Prop := (∀ b o, b ≠ s → b ≠ D → H0 b = some o → H' b = some o) ∧ Src H' s ∧ ∃ L : List HandR, Hands H' D L ∧ nmsOf L = zs.take i ∧ L.length = i ∧ (∀ m ∈ L, m.2.2.2.length = n) ∧ ∀ m ∈ L, ∀ x ∈ m.2.2.2, inFar x = true
theorem ok__law_web {f : Addr} {fd : FuncData} (F : FnP K "_law_web" s__law_web f fd) (h__law_draw : Has P w K mg base 2 "_law_draw" ["_law_well_here", "_law_many"] spDraw) (h__law_names : Has P w K mg base 3 "_law_names" ["_law_well_here", "_law_many"] spNames) (h__law_numbers : Has P w K mg base 3 "_law_numbers" ["_law_well_here", "_law_size"] spNumbers) (h__law_ties : Has P w K mg base 3 "_law_ties" ["_law_well_here", "_law_names_here", "_law_share"] spTiesL) : FnOk P w K mg base CX0 4 f fd ["_law_well_here", "_law_most"] spWebL := by
  refine F.ok sc__law_web (fun vs H Q E h => ?_) (fun cdv A outer s0 H vs Q E hr h => ?_)
  · obtain ⟨s, rfl, _⟩ := h; rfl
  obtain ⟨s, rfl, hs, qq⟩ := h
  refine ⟨_, PSs.nox (pss_cons (ps_set (i := 2) sc__law_web.nd rfl (.inr rfl) (pe_op op_add pe_int (pe_callH h__law_draw (hr.mono (by decide)) (by rfl) (pa_cons (pv 0) (pa_cons pe_int pa_nil)))))
  (pss_cons (ps_set (i := 3) sc__law_web.nd rfl (.inl rfl) (pe_callH h__law_names (hr.mono (by decide)) (by rfl) (pa_cons (pv 0) (pa_cons (pe_op op_add pe_int (pe_callH h__law_draw (hr.mono (by decide)) (by rfl) (pa_cons (pv 0) (pa_cons (pv 1) pa_nil)))) pa_nil))))
  (pss_cons (ps_setLc (i := 4) (own := [("_law_name", 5)]) (g := (gName 5)) (by rfl) sc__law_web.nd rfl rfl (sw_true rfl rfl rfl (by decide +kernel)) (pi_listE K (pv 3)) (blkOk_by (own := [("_law_name", 5)]) (N := ["_law_well_here", "_law_most", "_law_size", "_law_names_here", "_law_hands", "_law_name"]) (sc := defScope s__law_web) (by decide +kernel)) (fun _ _ _ _ _ => (pg_name (i := 5) sc__law_web.nd rfl (.inl rfl))) (fun _ _ _ _ _ => pts_nil) (fun _ _ _ _ _ => (pe_tup (pa_cons (pv 5) (pa_cons (pe_callH h__law_numbers (hr.mono (by decide)) (by rfl) (pa_cons (pv 0) (pa_cons (pv 2) pa_nil))) pa_nil)))))
  (pss_one (ps_ret (pe_tup (pa_cons (pv 4) (pa_cons (pe_callH h__law_ties (hr.mono (by decide)) (by rfl) (pa_cons (pv 0) (pa_cons (pv 3) (pa_cons (pe_op op_add pe_int (pe_callH h__law_draw (hr.mono (by decide)) (by rfl) (pa_cons (pv 0) (pa_cons pe_int pa_nil)))) pa_nil)))) pa_nil)))))))), ?_⟩
  walk_at "zz"
  refine ⟨s, _, rfl, by decide, by decide +kernel, hs, fun r1 H1 r10 r11 d1 => ?_⟩
  obtain ⟨n1, rfl⟩ : ∃ j : Nat, r1 = (j : Int) := ⟨r1.toNat, by omega⟩
  refine z_I0 ?_
  rw [show (1 + (n1 : Int)) = ((1 + n1 : Nat) : Int) by omega]
  walk_at "zz"
  refine ⟨s, _, rfl, by decide, by decide +kernel, d1.src, fun r2 H2 r20 r21 d2 => ?_⟩
  obtain ⟨n2, rfl⟩ : ∃ j : Nat, r2 = (j : Int) := ⟨r2.toNat, by omega⟩
  refine z_I0 ?_
  rw [show (1 + (n2 : Int)) = ((1 + n2 : Nat) : Int) by omega]
  walk_at "zz"
  refine ⟨s, 1 + n2, rfl, by omega, d2.src, fun nl zs H3 nn hn ln nd nm ap d3 => ?_⟩
  have D3 := d1.trans (d2.trans d3)
  have nls : nl ≠ s := d2.src.ne nn
  walk_at "zz"
  show iList K _ _ _ _
  walk_at "zz"
  refine ⟨nl, rfl, ⟨_, SqL.of hn⟩, fun D nD => lc_list (xs := zs.map V.str) (WInv s D H3 zs (1 + n1)) ?_ ?_ ?_ ?_⟩
  · have Ds := d3.src.ne nD
    refine ⟨fun b o _ nb hb => by rw [upd_ne nb]; exact hb, ?_, [], ⟨upd_same, fun m hm => absurd hm (by simp), fun m hm => absurd hm (by simp)⟩, rfl, rfl, fun m hm => absurd hm (by simp), fun m hm => absurd hm (by simp)⟩
    obtain ⟨a, b, c, hz⟩ := d3.src
    exact ⟨a, b, c, by rw [upd_ne Ds.symm]; exact hz⟩
  · exact fun i H' _ hp => SqL.of (hp.1 _ _ nls (ne_of_none hn nD) hn)
  · rintro i x H4 hx ⟨k4, r4, L, h4, e4, l4, len4, far4⟩
    have Ds := d3.src.ne nD
    rw [List.getElem?_map] at hx
    obtain ⟨z, hz, rfl⟩ := Option.map_eq_some_iff.mp hx
    have il : i < zs.length := (List.getElem?_eq_some_iff.mp hz).1
    refine ⟨rfl, ?_⟩
    walk_at "zz"
    refine ⟨s, 1 + n1, rfl, by omega, r4, fun q5 ns H5 h5 ln5 far5 d5 => ?_⟩
    walk_at "zz"
    refine z_new (by simp) (fun p6 H6 n6 e6 h6 => ?_)
    have D6 : H6 D = some (.lst (L.map fun m => .ref m.1)) := e6 _ _ (d5.keep _ _ Ds h4.lst)
    have tD : ∀ {b : Addr} {xs : List V}, H6 b = some (.tup xs) → b ≠ D := fun hb => ne_of hb D6 (by intro z; cases z)
    have up : ∀ {b : Addr} {xs : List V} (o : HO), H6 b = some (.tup xs) → upd H6 D o b = some (.tup xs) := fun o hb => by rw [upd_ne (tD hb)]; exact hb
    refine ⟨_, D6, small1000 (by rw [List.length_map]; omega), fun b o nb nD' hb => by rw [upd_ne nD']; exact e6 _ _ (d5.keep _ _ nb (k4 b o nb nD' hb)), ?_, L ++ [(p6, z, q5, ns)], ⟨?_, ?_, ?_⟩, ?_, ?_, ?_, ?_⟩
    · obtain ⟨a, b, c, hz⟩ := d5.src.same e6
      exact ⟨a, b, c, by rw [upd_ne Ds.symm]; exact hz⟩
    · rw [upd_same, List.map_append]
      rfl
    · intro m mm
      rcases List.mem_append.mp mm with mm | mm
      · exact up _ (e6 _ _ (d5.tup (h4.tup m mm)))
      · rw [List.mem_singleton.mp mm]
        exact up _ h6
    · intro m mm
      rcases List.mem_append.mp mm with mm | mm
      · exact up _ (e6 _ _ (d5.tup (h4.num m mm)))
      · rw [List.mem_singleton.mp mm]
        exact up _ (e6 _ _ h5)
    · have en : nmsOf (L ++ [(p6, z, q5, ns)]) = nmsOf L ++ [z] := by
        show List.map _ _ = _
        rw [List.map_append]
        rfl
      rw [en, e4, List.take_add_one, hz]
      rfl
    · rw [List.length_append, l4]
      rfl
    · intro m mm
      rcases List.mem_append.mp mm with mm | mm
      · exact len4 m mm
      · rw [List.mem_singleton.mp mm]
        exact ln5
    · intro m mm
      rcases List.mem_append.mp mm with mm | mm
      · exact far4 m mm
      · rw [List.mem_singleton.mp mm]
        exact far5
  · rintro H4 ⟨k4, r4, L, h4, e4, l4, len4, far4⟩
    have Ds := d3.src.ne nD
    rw [List.length_map] at e4 l4
    rw [List.take_of_length_le (Nat.le_refl _)] at e4
    walk_at "zz"
    refine ⟨s, _, rfl, by decide, by decide +kernel, r4, fun r5 H5 r50 r51 d5 => ?_⟩
    walk_at "zz"
    have nlD : nl ≠ D := ne_of_none hn nD
    refine ⟨s, nl, zs, _, rfl, d5.src, d5.keep _ _ nls (k4 _ _ nls nlD hn), nls, by omega, nd, nm, fun r T H6 nr t6 ok6 d6 => ?_⟩
    walk_at "zz"
    refine z_new (by simp) (fun p7 H7 n7 e7 h7 => ?_)
    have d57 := d5.trans (d6.trans (Dr.of_same d6.src e7))
    have hands7 : Hands H7 D L := ⟨d57.keep _ _ Ds h4.lst, fun m mm => d57.tup (h4.tup m mm), fun m mm => d57.tup (h4.num m mm)⟩
    have d37 : Dr s H3 H7 := ⟨fun b o nb hb => d57.keep _ _ nb (k4 b o nb (ne_of_none hb nD) hb), d57.src, d3.src⟩
    have nr4 : H4 r = none := dr_back d5 nr
    have nr0 : H r = none := by
      cases e : H r with
      | none => rfl
      | some o =>
        have rs : r ≠ s := d5.src.ne nr
        have z := D3.keep _ _ rs e
        rw [k4 _ o rs (ne_of_none z nD) z] at nr4
        cases nr4
    refine qq p7 D r L T (1 + n1) H7 h7 (dr_back D3 nD) hands7 nr0 ⟨e7 _ _ t6.lst, fun m mm => e7 _ _ (t6.tup m mm)⟩ ⟨by omega, by omega, by omega, by omega, fun m mm => nm _ (by rw [← e4]; exact List.mem_map.mpr ⟨m, mm, rfl⟩), len4, far4, by show (nmsOf L).Nodup; rw [e4]; exact nd⟩ (by rw [e4]; exact ok6) (by rw [e4]; exact ap) (D3.trans d37)
/-! ### webs as data; webs turned about -/
theorem lay_all : ∀ {ds : List PyData} {n : Nat}, (∀ d ∈ ds, d.canLay0 = true ∧ d.depth ≤ n) → PyData.canLayAll0 ds = true ∧ PyData.depthAll ds ≤ n
  | [], _, _ => ⟨rfl, Nat.zero_le _⟩
  | d :: ds, n, h => by
    obtain ⟨h1, h2⟩ := h d (by simp)
    obtain ⟨h3, h4⟩ := lay_all (ds := ds) (n := n) fun e he => h e (List.mem_cons_of_mem _ he)
    refine ⟨?_, ?_⟩
    · show (PyData.canLay0 d && PyData.canLayAll0 ds) = true
      rw [h1, h3]
      rfl
    · show max (PyData.depth d) (PyData.depthAll ds) ≤ n
      omega
theorem lay_tup {ds : List PyData} {n : Nat} (h : ∀ d ∈ ds, d.canLay0 = true ∧ d.depth ≤ n) : (PyData.tuple ds).canLay0 = true ∧ (PyData.tuple ds).depth ≤ n + 1 := by
  obtain ⟨h1, h2⟩ := lay_all h
  exact ⟨h1, Nat.succ_le_succ h2⟩
theorem lay_lst {ds : List PyData} {n : Nat} (h : ∀ d ∈ ds, d.canLay0 = true ∧ d.depth ≤ n) : (PyData.list ds).canLay0 = true ∧ (PyData.list ds).depth ≤ n + 1 := by
  obtain ⟨h1, h2⟩ := lay_all h
  exact ⟨h1, Nat.succ_le_succ h2⟩
theorem sh_of {d : PyData} {n : Nat} (h : d.canLay0 = true ∧ d.depth ≤ n) (hn : n ≤ 64) : SeqAt.shaped d = true := by
  unfold SeqAt.shaped
  rw [h.1, decide_eq_true (Nat.le_trans h.2 hn)]
  rfl
theorem nm_strOk {z : Str} (h : nmB z = true) : (PyData.str z).canLay0 = true := by
  show PySem.PyData.strOk z = true
  unfold PySem.PyData.strOk
  unfold nmB at h
  rw [Bool.and_eq_true, Bool.and_eq_true] at h
  rw [← Array.all_toList, List.all_eq_true]
  intro c hc
  have := List.all_eq_true.mp h.2.2 c hc
  unfold smB at this
  rw [Bool.and_eq_true] at this
  have := of_decide_eq_true this.2
  exact decide_eq_true (by omega)
def handD (m : HandR) : PyData := .tuple [.str m.2.1, .tuple (m.2.2.2.map PyData.int)]
def tieD (m : TieR) : PyData := .tuple [.str m.2.1, .str m.2.2]
theorem dpAll_map {α : Type} {H : Hp} {f : α → V} {g : α → PyData} : ∀ {l : List α}, (∀ m ∈ l, Dp K H (f m) (g m)) → DpAll K H (l.map f) (l.map g)
  | [], _ => .nil
  | m :: l, h => .cons (h m (by simp)) (dpAll_map fun x hx => h x (List.mem_cons_of_mem _ hx))
/-! ### odd things -/
/-- all that stands but what is at s -/
def hole (s : Addr) (H : Hp) : Hp := fun b => if b = s then none else H b
theorem hole_get {s b : Addr} {H : Hp} {o : HO} (n : b ≠ s) (h : H b = some o) : hole s H b = some o := by
  unfold hole
  rw [if_neg n]
  exact h
theorem hole_of {s b : Addr} {H : Hp} {o : HO} (h : hole s H b = some o) : b ≠ s ∧ H b = some o := by
  unfold hole at h
  by_cases e : b = s
  · rw [if_pos e] at h; cases h
  · rw [if_neg e] at h; exact ⟨e, h⟩
theorem hole_dr {s : Addr} {H H' : Hp} (d : Dr s H H') : Kp (hole s H) (hole s H') := fun b o _ h => hole_get (hole_of h).1 (d.keep b o (hole_of h).1 (hole_of h).2)
theorem hole_up {s : Addr} {H : Hp} : Kp (hole s H) H := fun b o _ h => (hole_of h).2
theorem src_tup {s p : Addr} {H : Hp} {xs : List V} (r : Src H s) (h : H p = some (.tup xs)) : p ≠ s := by
  obtain ⟨a, b, c, hs⟩ := r
  exact ne_of h hs (by intro z; cases z)
theorem src_new {s p : Addr} {H : Hp} (r : Src H s) (h : H p = none) : p ≠ s := by
  obtain ⟨a, b, c, hs⟩ := r
  intro e
  rw [e, hs] at h
  cases h
theorem src_dct {s p : Addr} {H : Hp} {xs : List (Key × V)} (r : Src H s) (h : H p = some (.dK xs)) : p ≠ s := by
  obtain ⟨a, b, c, hs⟩ := r
  exact ne_of h hs (by intro z; cases z)
/-- flat things, and one of them in a tuple or a list -/
inductive Fl : V → PyData → Prop
  | str (z : Str) : Fl (.str z) (.str z)
  | int (n : Int) : Fl (.int n) (.int n)
  | bl (b : Bool) : Fl (.bl b) (.bool b)
  | non : Fl .non .none
inductive Ld (H : Hp) : V → PyData → Prop
  | fl {v : V} {d : PyData} : Fl v d → Ld H v d
  | tup {p : Addr} {v : V} {d : PyData} : H p = some (.tup [v]) → Fl v d → Ld H (.ref p) (.tuple [d])
  | lst {p : Addr} {v : V} {d : PyData} : H p = some (.lst [v]) → Fl v d → Ld H (.ref p) (.list [d])
theorem Ld.kp {H H' : Hp} {v : V} {d : PyData} (h : Ld H v d) (k : Kp H H') : Ld H' v d := by
  cases h with
  | fl f => exact .fl f
  | tup h f => exact .tup (k.tup h) f
  | lst h f => exact .lst (k.lst h) f
theorem Fl.dp {H : Hp} {v : V} {d : PyData} (h : Fl v d) : Dp K H v d := by
  cases h with
  | str z => exact .str z
  | int n => exact .int n
  | bl b => exact .bl b
  | non => exact .non
theorem Ld.dp {H : Hp} {v : V} {d : PyData} (h : Ld H v d) : Dp K H v d := by
  cases h with
  | fl f => exact f.dp
  | tup h f => exact .tup (SqT.of h) (.cons f.dp .nil)
  | lst h f => exact .lst (SqL.of h) (.cons f.dp .nil)
def badName : PyData → Bool
  | .str z => decide (z.length ≤ 1000) && !nmB z
  | _ => true
theorem Ld.nm {H : Hp} {v : V} {d : PyData} (h : Ld H v d) (b : badName d = true) : NmV H v false := by
  cases h with
  | fl f =>
    cases f with
    | str z =>
      unfold badName at b
      rw [Bool.and_eq_true, decide_eq_true_eq, Bool.not_eq_true'] at b
      exact .inr ⟨z, rfl, b.1, b.2.symm⟩
    | int n => exact .inl ⟨_, .int n, by decide, rfl⟩
    | bl c => exact .inl ⟨_, .bl c, by decide, rfl⟩
    | non => exact .inl ⟨_, .non, by decide, rfl⟩
  | tup h f => exact .inl ⟨_, .tup h, by decide, rfl⟩
  | lst h f => exact .inl ⟨_, .lst h, by decide, rfl⟩
def badOwn : PyData → Bool
  | .int n => !inFar n
  | _ => true
theorem Ld.own {H : Hp} {v : V} {d : PyData} (h : Ld H v d) (b : badOwn d = true) : OwnV H v false := by
  cases h with
  | fl f =>
    cases f with
    | str z => exact .inr ⟨rfl, .str z⟩
    | int n =>
      unfold badOwn at b
      rw [Bool.not_eq_true'] at b
      exact .inl ⟨n, rfl, b.symm⟩
    | bl c => exact .inr ⟨rfl, .bl c⟩
    | non => exact .inr ⟨rfl, .non⟩
  | tup h f => exact .inr ⟨rfl, .tup h⟩
  | lst h f => exact .inr ⟨rfl, .lst h⟩
def Lay (d : PyData) (n : Nat) : Prop := d.canLay0 = true ∧ d.depth ≤ n
theorem Lay.up {d : PyData} {m n : Nat} (h : Lay d m) (l : m ≤ n) : Lay d n := ⟨h.1, Nat.le_trans h.2 l⟩
theorem rd_kp {H H' : Hp} (k : Kp H H') {a : Addr} {u : HO} (n : ∀ ps, u ≠ .tbl ps) (h : Rd H a u) : Rd H' a u := h.elim (fun h => .inl (k _ _ n h)) fun ⟨o, h⟩ => .inr ⟨o, k _ _ (fun _ z => by cases z) h⟩
theorem sqL_kp {H H' : Hp} (k : Kp H H') {a : Addr} {xs : List V} (h : SqL K H a xs) : SqL K H' a xs := h.imp (rd_kp k fun _ z => by cases z) id
theorem sqT_kp {H H' : Hp} (k : Kp H H') {a : Addr} {xs : List V} (h : SqT K H a xs) : SqT K H' a xs := h.imp (rd_kp k fun _ z => by cases z) id
mutual
theorem Dp.kp {H H' : Hp} (k : Kp H H') : ∀ {v : V} {d : PyData}, Dp K H v d → Dp K H' v d
  | _, _, .non => .non
  | _, _, .bl b => .bl b
  | _, _, .int i => .int i
  | _, _, .str x => .str x
  | _, _, .lst h g => .lst (sqL_kp k h) (DpAll.kp k g)
  | _, _, .tup h g => .tup (sqT_kp k h) (DpAll.kp k g)
theorem DpAll.kp {H H' : Hp} (k : Kp H H') : ∀ {vs : List V} {ds : List PyData}, DpAll K H vs ds → DpAll K H' vs ds
  | _, _, .nil => .nil
  | _, _, .cons h g => .cons (Dp.kp k h) (DpAll.kp k g)
end
/-- what _law_odd_hand tells: no hand, or a hand that is there, once more -/
def OddI (K : PySem.W.Frag) (G : Hp) (L : List HandR) (v : V) : Prop := (HdV G v false ∧ ∃ d, Dp K G v d ∧ Lay d 3) ∨ ∃ m ∈ L, ∃ p, v = .ref p ∧ G p = some (.tup [.str m.2.1, .ref m.2.2.1])
theorem OddI.kp {G G' : Hp} {L : List HandR} {v : V} (h : OddI K G L v) (k : Kp G G') : OddI K G' L v := by
  rcases h with ⟨h, d, g, l⟩ | ⟨m, hm, p, e, h⟩
  · exact .inl ⟨h.kp k, d, Dp.kp k g, l⟩
  · exact .inr ⟨m, hm, p, e, k.tup h⟩
/-- a tuple of two that is no hand -/
theorem no_hand {G : Hp} {L : List HandR} {p : Addr} {x y : V} {dx dy : PyData} {k1 k2 : Bool} (h : G p = some (.tup [x, y])) (n : NmV G x k1) (u : NuV G y k2) (k : (k1 && k2) = false) (hx : Dp K G x dx) (hy : Dp K G y dy) (lx : Lay dx 2) (ly : Lay dy 2) : OddI K G L (.ref p) :=
  .inl ⟨.inr ⟨p, _, rfl, h, .inr ⟨x, y, k1, k2, rfl, n, u, k.symm⟩⟩, .tuple [dx, dy], .tup (SqT.of h) (.cons hx (.cons hy .nil)), lay_tup (n := 2) fun d hd => by
    simp only [List.mem_cons, List.not_mem_nil, or_false] at hd
    rcases hd with rfl | rfl
    · exact lx
    · exact ly⟩
theorem no_len {G : Hp} {L : List HandR} {p : Addr} {xs : List V} {ds : List PyData} (h : G p = some (.tup xs)) (n : xs.length ≠ 2) (hd : DpAll K G xs ds) (l : ∀ d ∈ ds, Lay d 2) : OddI K G L (.ref p) :=
  .inl ⟨.inr ⟨p, xs, rfl, h, .inl ⟨n, rfl⟩⟩, .tuple ds, .tup (SqT.of h) hd, lay_tup l⟩
theorem lay_ints (ns : List Int) : Lay (.tuple (ns.map PyData.int)) 1 := lay_tup (n := 0) fun d hd => by
  obtain ⟨i, _, rfl⟩ := List.mem_map.mp hd
  exact ⟨rfl, Nat.le_refl _⟩
theorem lay_intsL (ns : List Int) : Lay (.list (ns.map PyData.int)) 1 := lay_lst (n := 0) fun d hd => by
  obtain ⟨i, _, rfl⟩ := List.mem_map.mp hd
  exact ⟨rfl, Nat.le_refl _⟩
theorem lay_name {z : Str} (h : nmB z = true) : Lay (.str z) 0 := ⟨nm_strOk h, Nat.le_refl _⟩
theorem dp_nums {G : Hp} {p : Addr} {ns : List Int} (h : G p = some (.tup (ns.map V.int))) : Dp K G (.ref p) (.tuple (ns.map PyData.int)) := .tup (SqT.of h) (dpInts ns)
theorem nm_str {z : Str} {G : Hp} (h : nmB z = true) : NmV G (.str z) true := .of_nm h
theorem nu_of {G : Hp} {p : Addr} {xs : List V} {ks : List Bool} {k : Bool} (h : G p = some (.tup xs)) (o : OwnAll G xs ks) (e : nuB ks = k) : NuV G (.ref p) k := .inr ⟨p, xs, ks, rfl, h, o, e.symm⟩
theorem str_nil (z : Str) : z ++ ("" : Str) = z := by
  cases z with
  | mk a =>
    show Str.mk (a ++ #[]) = Str.mk a
    rw [Array.append_empty]
theorem cut_tk {α : Type} (f : α → V) (l : List α) (a : Nat) : cutV (l.map f) none (some (a : Int)) = (l.take a).map f := by
  unfold cutV
  rw [HT.sIx_nat, HT.sIx_none, List.length_map, List.drop_zero, Nat.sub_zero, ← List.map_take]
  congr 1
  by_cases h : a ≤ l.length
  · rw [Nat.min_eq_left h]
  · rw [Nat.min_eq_right (by omega), List.take_of_length_le (Nat.le_refl _), List.take_of_length_le (by omega)]
theorem cut_frm {α : Type} (f : α → V) (l : List α) (a : Nat) : cutV (l.map f) (some (a : Int)) none = (l.drop a).map f := by
  unfold cutV
  rw [HT.sIx_nat, HT.sIx_none, List.length_map, ← List.map_drop]
  by_cases h : a ≤ l.length
  · rw [Nat.min_eq_left h, List.take_of_length_le (by rw [List.length_map, List.length_drop]; omega)]
  · rw [Nat.min_eq_right (by omega), Nat.sub_self, List.take_zero, List.drop_eq_nil_of_le (by omega)]
    rfl
theorem own_app {G : Hp} {xs ys : List V} {ks js : List Bool} (a : OwnAll G xs ks) (b : OwnAll G ys js) : OwnAll G (xs ++ ys) (ks ++ js) := by
  refine ⟨by rw [List.length_append, List.length_append, a.1, b.1], fun i x k hx hk => ?_⟩
  rcases Nat.lt_or_ge i xs.length with h | h
  · rw [List.getElem?_append_left h] at hx
    rw [List.getElem?_append_left (by rw [a.1]; exact h)] at hk
    exact a.2 i x k hx hk
  · rw [List.getElem?_append_right h] at hx
    rw [List.getElem?_append_right (by rw [a.1]; exact h), a.1] at hk
    exact b.2 _ x k hx hk
theorem own_one {G : Hp} {x : V} {k : Bool} (h : OwnV G x k) : OwnAll G [x] [k] := ⟨rfl, fun i y j hy hj => by
  cases i with
  | zero => cases hy; cases hj; exact h
  | succ i => simp at hy⟩
theorem nu_odd {G : Hp} {p : Addr} {x : V} {as bs : List Int} (h : G p = some (.tup (as.map V.int ++ [x] ++ bs.map V.int))) (o : OwnV G x false) : NuV G (.ref p) false := by
  refine nu_of h (own_app (own_app (own_ints as) (own_one o)) (own_ints bs)) ?_
  unfold nuB
  have e : (as.map inFar ++ [false] ++ bs.map inFar).all id = false := by
    rw [List.all_append, List.all_append]
    simp
  rw [e, Bool.and_false, Bool.and_false]
theorem dpAll_app {G : Hp} : ∀ {xs ys : List V} {ds es : List PyData}, DpAll K G xs ds → DpAll K G ys es → DpAll K G (xs ++ ys) (ds ++ es)
  | [], _, _, _, .nil, h => h
  | _ :: _, _, _, _, .cons a b, h => .cons a (dpAll_app b h)
theorem lc_str {z : Str} {g : TG} {tt : TT} {te : TE} {vs : List Nat} {σ : L2.St} {H1 : Hp} {D : Addr} {Qd : Hp → Prop} (Pv : Nat → Hp → Prop) (h0 : Pv 0 (upd H1 D (.lst [])))
    (hs : ∀ i c H, z.cps[i]? = some c → Pv i H → g (.str ⟨#[c]⟩) (wipe σ vs) H fun σ2 H2 => wipe σ2 vs = wipe σ vs ∧ tt σ2 H2 fun b H3 => if b = true then te σ2 H3 fun y H4 => ∃ acc, H4 D = some (.lst acc) ∧ acc.length < sizeLine ∧ Pv (i + 1) (upd H4 D (.lst (acc ++ [y]))) else Pv (i + 1) H3) (hd : ∀ H, Pv z.cps.size H → Qd H) :
    ∃ W : Nat → Nat → Hp → Prop, (∃ m, W 0 m (upd H1 D (.lst []))) ∧ ∀ i m H, W i m H → ((Its z).stop i H ∧ Qd H) ∨ ((Its z).go i H ∧ ∃ Nx : Hp → Prop, (∀ H', Nx H' → ∃ m', m' < m ∧ W (i + 1) m' H') ∧ ∀ x H', (Its z).yld i H x H' → g x (wipe σ vs) H' fun σ2 H2 => wipe σ2 vs = wipe σ vs ∧ tt σ2 H2 fun b H3 =>
      if b = true then te σ2 H3 fun y H4 => ∃ acc, H4 D = some (.lst acc) ∧ acc.length < sizeLine ∧ Nx (upd H4 D (.lst (acc ++ [y]))) else Nx H3) := by
  refine ⟨fun i m H => i ≤ z.cps.size ∧ m = z.cps.size - i ∧ Pv i H, ⟨z.cps.size, Nat.zero_le _, by simp, h0⟩, ?_⟩
  rintro i m H ⟨hi, rfl, p⟩
  by_cases lt : i < z.cps.size
  · refine .inr ⟨lt, Pv (i + 1), fun H' p' => ⟨z.cps.size - (i + 1), by omega, lt, rfl, p'⟩, fun x H' y => ?_⟩
    obtain ⟨rfl, c, hc, rfl⟩ := y
    exact hs i c _ hc p
  · have e : i = z.cps.size := by omega
    subst e
    exact .inl ⟨Nat.le_refl _, hd H p⟩
/-- things that are refused as hands -/
def HandsX (G : Hp) (v : V) : Prop := HandsBad G v ∨ ∃ h L, v = .ref h ∧ Hands G h L ∧ HandsV L ∧ ¬ HandsT L
theorem HandsBad.kp {H H' : Hp} {v : V} (h : HandsBad H v) (k : Kp H H') : HandsBad H' v := by
  rcases h with ⟨n, ty, ne⟩ | ⟨t, xs, e, hl, r⟩
  · exact .inl ⟨n, ty.kp k, ne⟩
  · refine .inr ⟨t, xs, e, k.lst hl, ?_⟩
    rcases r with r | r | ⟨ks, lk, hk, al⟩
    · exact .inl r
    · exact .inr (.inl r)
    · exact .inr (.inr ⟨ks, lk, fun i x b hx hb => (hk i x b hx hb).kp k, al⟩)
theorem HandsX.kp {H H' : Hp} {v : V} (h : HandsX H v) (k : Kp H H') : HandsX H' v := by
  rcases h with h | ⟨a, L, e, hh, v, n⟩
  · exact .inl (h.kp k)
  · exact .inr ⟨a, L, e, hh.kp k, v, n⟩
theorem hands_bad {G : Hp} {l : Addr} {A B : List HandR} {v : V} (h : G l = some (.lst (A.map (fun m => V.ref m.1) ++ [v] ++ B.map fun m => V.ref m.1))) (hv : HdV G v false) (ha : ∀ m, m ∈ A ∨ m ∈ B → HdV G (.ref m.1) true) : HandsX G (.ref l) := by
  refine .inl (.inr ⟨l, _, rfl, h, .inr (.inr ⟨A.map (fun _ => true) ++ [false] ++ B.map (fun _ => true), by simp, fun i x k hx hk => ?_, by rw [List.all_append, List.all_append]; simp⟩)⟩)
  rcases Nat.lt_or_ge i A.length with h1 | h1
  · rw [List.append_assoc, List.getElem?_append_left (by rw [List.length_map]; exact h1), List.getElem?_map, List.getElem?_eq_getElem h1] at hx hk
    cases hx
    cases hk
    exact ha _ (.inl (List.getElem_mem h1))
  · rw [List.append_assoc, List.getElem?_append_right (by rw [List.length_map]; exact h1), List.length_map] at hx hk
    cases e : i - A.length with
    | zero =>
      rw [e] at hx hk
      cases hx
      cases hk
      exact hv
    | succ j =>
      rw [e] at hx hk
      have hx' : (B.map fun m => V.ref m.1)[j]? = some x := hx
      have hk' : (B.map fun _ => true)[j]? = some k := hk
      rw [List.getElem?_map] at hx' hk'
      obtain ⟨m, hm, rfl⟩ := Option.map_eq_some_iff.mp hx'
      rw [hm] at hk'
      cases hk'
      exact ha m (.inr (List.mem_of_getElem? hm))
theorem hands_two {G : Hp} {l : Addr} {L : List HandR} (hh : Hands G l L) (one : 1 ≤ L.length) (nm : ∀ m ∈ L, nmB m.2.1 = true) (len : ∀ m ∈ L, 1 ≤ m.2.2.2.length ∧ m.2.2.2.length ≤ 3) (far : ∀ m ∈ L, ∀ x ∈ m.2.2.2, inFar x = true) (nt : ¬ HandsT L) : HandsX G (.ref l) := by
  by_cases h8 : L.length ≤ 8
  · exact .inr ⟨l, L, rfl, hh, ⟨one, h8, nm, len, far⟩, nt⟩
  · exact .inl (.inr ⟨l, _, rfl, hh.lst, .inr (.inl (by rw [List.length_map]; omega))⟩)
theorem hands_hole {s h : Addr} {H : Hp} {L : List HandR} (r : Src H s) (n : h ≠ s) (a : Hands H h L) : Hands (hole s H) h L := ⟨hole_get n a.lst, fun m hm => hole_get (src_tup r (a.tup m hm)) (a.tup m hm), fun m hm => hole_get (src_tup r (a.num m hm)) (a.num m hm)⟩
theorem paired_hands {H : Hp} : ∀ {L : List HandR}, (∀ m ∈ L, H m.1 = some (.tup [.str m.2.1, .ref m.2.2.1])) → Paired (fun p kv => SqT K H p [kV kv.1, kv.2]) (L.map fun m => m.1) (L.map fun m => ((.inr m.2.1 : Key), V.ref m.2.2.1))
  | [], _ => .nil
  | m :: L, h => .cons (SqT.of (h m (by simp))) (paired_hands fun x hx => h x (List.mem_cons_of_mem _ hx))
theorem take_drop_mem {α : Type} {l : List α} {k j : Nat} {x : α} (h : x ∈ l.take k ∨ x ∈ l.drop j) : x ∈ l := h.elim List.mem_of_mem_take List.mem_of_mem_drop
def spOddHand (K : PySem.W.Frag) : Sp := fun vs H Q _ => ∃ (s h : Addr) (L : List HandR) (n : Nat), vs = [.ref s, .ref h] ∧ Src H s ∧ h ≠ s ∧ Hands H h L ∧ HandsOk L n ∧ ∀ (v : V) (H' : Hp), OddI K (hole s H') L v → Dr s H H' → Q v H'
theorem hands_dr {s h : Addr} {H H' : Hp} {L : List HandR} (n : h ≠ s) (a : Hands H h L) (d : Dr s H H') : Hands H' h L := ⟨d.keep _ _ n a.lst, fun m hm => d.keep _ _ (src_tup d.src0 (a.tup m hm)) (a.tup m hm), fun m hm => d.keep _ _ (src_tup d.src0 (a.num m hm)) (a.num m hm)⟩
theorem ok__law_odd_hand {f : Addr} {fd : FuncData} (F : FnP K "_law_odd_hand" s__law_odd_hand f fd) (m_len : mg "len" = none) (m_list : mg "list" = none) (h__law_draw : Has P w K mg base 2 "_law_draw" ["_law_well_here", "_law_many"] spDraw) (h__law_pick : Has P w K mg base 3 "_law_pick" ["_law_well_here", "_law_some"] spPick) : FnOk P w K mg base CX0 4 f fd ["_law_well_here", "_law_hands"] (spOddHand K) := by
  refine F.ok sc__law_odd_hand (fun vs H Q E h => ?_) (fun cdv A outer s0 H vs Q E hr h => ?_)
  · obtain ⟨s, h, L, n, rfl, _⟩ := h; rfl
  obtain ⟨s, h, L, n, rfl, hs, hns, hh, ok, q⟩ := h
  have ll : (L.map fun m => V.ref m.1).length = L.length := List.length_map ..
  have o1 := ok.one
  have o8 := ok.few
  have n1 := ok.n1
  have n3 := ok.n3
  refine ⟨_, PSs.nox (pss_cons (ps_asg (pe_callH h__law_pick (hr.mono (by decide)) (by rfl) (pa_cons (pv 0) (pa_cons (pv 1) pa_nil))) (pg_tup rfl (pgs_cons (pg_name (i := 2) sc__law_odd_hand.nd rfl (.inl rfl)) (pgs_cons (pg_name (i := 3) sc__law_odd_hand.nd rfl (.inl rfl)) pgs_nil))))
  (pss_cons (ps_set (i := 4) sc__law_odd_hand.nd rfl (.inl rfl) (pe_callH h__law_pick (hr.mono (by decide)) (by rfl) (pa_cons (pv 0) (pa_cons (pv 1) pa_nil))))
  (pss_cons (ps_set (i := 5) sc__law_odd_hand.nd rfl (.inl rfl) (pe_callH h__law_pick (hr.mono (by decide)) (by rfl) (pa_cons (pv 0) (pa_cons (pe_lst (pa_cons pe_str (pa_cons pe_str (pa_cons pe_str (pa_cons pe_str (pa_cons pe_str (pa_cons pe_non (pa_cons pe_int (pa_cons pe_bl (pa_cons (pe_tup (pa_cons pe_str pa_nil)) (pa_cons (pe_lst (pa_cons pe_str pa_nil)) (pa_cons pe_str pa_nil)))))))))))) pa_nil))))
  (pss_cons (ps_set (i := 6) sc__law_odd_hand.nd rfl (.inl rfl) (pe_callH h__law_draw (hr.mono (by decide)) (by rfl) (pa_cons (pv 0) (pa_cons (pe_callB (call_lenE K) (by rfl) m_len (by decide +kernel) (pa_cons (pv 3) pa_nil)) pa_nil))))
  (pss_cons (ps_set (i := 7) sc__law_odd_hand.nd rfl (.inl rfl) (pe_callH h__law_pick (hr.mono (by decide)) (by rfl) (pa_cons (pv 0) (pa_cons (pe_lst (pa_cons (pe_op op_add (pe_op op_pow pe_int pe_int) pe_int) (pa_cons (pe_op op_sub (pe_op op_sub pe_int (pe_op op_pow pe_int pe_int)) pe_int) (pa_cons pe_bl (pa_cons pe_bl (pa_cons pe_non (pa_cons pe_str (pa_cons (pe_tup (pa_cons pe_int pa_nil)) (pa_cons (pe_lst (pa_cons pe_int pa_nil)) pa_nil))))))))) pa_nil))))
  (pss_cons (ps_set (i := 8) sc__law_odd_hand.nd rfl (.inl rfl) (pe_lst (pa_cons (pe_tup (pa_cons (pv 5) (pa_cons (pv 3) pa_nil))) (pa_cons (pe_tup (pa_cons (pv 2) (pa_cons (pe_op (op_catE K) (pe_op (op_catE K) (pe_slice (sl_tupE K) (pv 3) po_none (po_some (pv 6))) (pe_tup (pa_cons (pv 7) pa_nil))) (pe_slice (sl_tupE K) (pv 3) (po_some (pe_op op_add (pv 6) pe_int)) po_none)) pa_nil))) (pa_cons (pe_tup (pa_cons (pv 2) (pa_cons (pe_tup pa_nil) pa_nil))) pa_nil)))))
  (pss_cons (ps_set (i := 8) sc__law_odd_hand.nd rfl (.inl rfl) (pe_op op_cat (pv 8) (pe_lst (pa_cons (pe_tup (pa_cons (pv 2) (pa_cons (pe_op (op_repTE K) (pv 3) pe_int) pa_nil))) pa_nil))))
  (pss_cons (ps_set (i := 8) sc__law_odd_hand.nd rfl (.inl rfl) (pe_op op_cat (pv 8) (pe_lst (pa_cons (pe_tup (pa_cons (pv 2) (pa_cons (pe_callTy (call_listE K) (by rfl) m_list (by decide +kernel) (pa_cons (pv 3) pa_nil)) pa_nil))) (pa_cons (pe_tup (pa_cons (pv 2) pa_nil)) (pa_cons (pe_tup (pa_cons (pv 2) (pa_cons (pv 3) (pa_cons pe_int pa_nil)))) (pa_cons (pe_lst (pa_cons (pv 2) (pa_cons (pv 3) pa_nil))) (pa_cons (pv 2) (pa_cons pe_non (pa_cons (pv 3) pa_nil))))))))))
  (pss_cons (ps_set (i := 8) sc__law_odd_hand.nd rfl (.inl rfl) (pe_op op_cat (pv 8) (pe_lst (pa_cons (pe_tup (pa_cons (pv 2) (pa_cons (pe_ix (ix_tupE K) (pv 3) pe_int (fun _ _ => rfl)) pa_nil))) (pa_cons (pe_tup (pa_cons (pe_op op_add_str (pe_ix (ix_tupE K) (pv 4) pe_int (fun _ _ => rfl)) pe_str) (pa_cons (pe_ix (ix_tupE K) (pv 4) pe_int (fun _ _ => rfl)) pa_nil))) (pa_cons (pe_tup (pa_cons (pv 3) (pa_cons (pv 2) pa_nil))) pa_nil))))))
  (pss_one (ps_ret (pe_callH h__law_pick (hr.mono (by decide)) (by rfl) (pa_cons (pv 0) (pa_cons (pv 8) pa_nil)))))))))))))), ?_⟩
  walk_at "zz"
  refine ⟨s, h, _, rfl, hs, hns, hh.lst, by omega, by omega, fun i v H1 hv d1 => ?_⟩
  obtain ⟨m, hm, mem, rfl⟩ := hands_at hv
  have h1 := hands_dr hns hh d1
  have zn := ok.nm _ mem
  have lns := ok.len _ mem
  have far := ok.far _ mem
  refine z_gTup (SqT.of (h1.tup _ mem)) rfl ?_
  walk_at "zz"
  refine ⟨s, h, _, rfl, d1.src, hns, h1.lst, by omega, by omega, fun i v H2 hv d2 => ?_⟩
  obtain ⟨m', hm', mem', rfl⟩ := hands_at hv
  walk_at "zz"
  refine z_new (by simp) (fun t3 H3 n3' e3 h3 => ?_)
  walk_at "zz"
  refine z_new (by simp) (fun l4 H4 n4 e4 h4 => ?_)
  walk_at "zz"
  refine z_new (by simp) (fun l5 H5 n5 e5 h5 => ?_)
  have s2 := d2.src
  have s3 := s2.same e3
  have s4 := s3.same e4
  have s5 := s4.same e5
  refine ⟨s, l5, _, rfl, s5, src_new s4 n5, h5, by simp, by simp, fun i strange H6 hv d6 => ?_⟩
  obtain ⟨ds, lds, bds⟩ : ∃ d, Ld (hole s H6) strange d ∧ badName d = true ∧ Lay d 1 := by
    have g3 : hole s H6 t3 = some (.tup [.str "a"]) := hole_get (src_new s2 n3') (d6.keep _ _ (src_new s2 n3') (e5 _ _ (e4 _ _ h3)))
    have g4 : hole s H6 l4 = some (.lst [.str "a"]) := hole_get (src_new s3 n4) (d6.keep _ _ (src_new s3 n4) (e5 _ _ h4))
    have mm := List.mem_of_getElem? hv
    simp only [List.mem_cons, List.not_mem_nil, or_false] at mm
    rcases mm with rfl | rfl | rfl | rfl | rfl | rfl | rfl | rfl | rfl | rfl | rfl
    · exact ⟨_, .fl (.str _), by decide +kernel, by decide +kernel, Nat.zero_le _⟩
    · exact ⟨_, .fl (.str _), by decide +kernel, by decide +kernel, Nat.zero_le _⟩
    · exact ⟨_, .fl (.str _), by decide +kernel, by decide +kernel, Nat.zero_le _⟩
    · exact ⟨_, .fl (.str _), by decide +kernel, by decide +kernel, Nat.zero_le _⟩
    · exact ⟨_, .fl (.str _), by decide +kernel, by decide +kernel, Nat.zero_le _⟩
    · exact ⟨_, .fl .non, rfl, rfl, Nat.zero_le _⟩
    · exact ⟨_, .fl (.int _), rfl, rfl, Nat.zero_le _⟩
    · exact ⟨_, .fl (.bl _), rfl, rfl, Nat.zero_le _⟩
    · exact ⟨_, .tup g3 (.str _), rfl, by decide +kernel, by decide +kernel⟩
    · exact ⟨_, .lst g4 (.str _), rfl, by decide +kernel, by decide +kernel⟩
    · exact ⟨_, .fl (.str _), by decide +kernel, by decide +kernel, Nat.zero_le _⟩
  have D6 : Dr s H1 H6 := d2.trans (Dr.trans (Dr.of_same s2 (e3.trans (e4.trans e5))) d6)
  have h6 := hands_dr hns h1 D6
  walk_at "zz"
  refine z_lenT (h6.num m mem) ?_
  walk_at "zz"
  rw [List.length_map, lns]
  refine ⟨s, _, rfl, by omega, Nat.lt_of_le_of_lt (m := 1000) (by omega) (by decide +kernel), D6.src, fun ra H7 a0 a1 d7 => ?_⟩
  obtain ⟨at_, rfl⟩ : ∃ j : Nat, ra = (j : Int) := ⟨ra.toNat, by omega⟩
  walk_at "zz"
  refine z_new (by simp) (fun t8 H8 n8 e8 h8 => ?_)
  walk_at "zz"
  refine z_new (by simp) (fun l9 H9 n9 e9 h9 => ?_)
  walk_at "zz"
  refine z_new (by simp) (fun la Ha na ea ha => ?_)
  have s7 := d7.src
  have s8 := s7.same e8
  have s9 := s8.same e9
  have sa := s9.same ea
  refine ⟨s, la, _, rfl, sa, src_new s9 na, ha, by simp, by simp, fun i odd Hb hv db => ?_⟩
  obtain ⟨dO, ldo, bdo⟩ : ∃ d, Ld (hole s Hb) odd d ∧ badOwn d = true ∧ Lay d 1 := by
    have g8 : hole s Hb t8 = some (.tup [.int 1]) := hole_get (src_new s7 n8) (db.keep _ _ (src_new s7 n8) (ea _ _ (e9 _ _ h8)))
    have g9 : hole s Hb l9 = some (.lst [.int 1]) := hole_get (src_new s8 n9) (db.keep _ _ (src_new s8 n9) (ea _ _ h9))
    have mm := List.mem_of_getElem? hv
    simp only [List.mem_cons, List.not_mem_nil, or_false] at mm
    rcases mm with rfl | rfl | rfl | rfl | rfl | rfl | rfl | rfl
    · exact ⟨_, .fl (.int _), by decide +kernel, rfl, Nat.zero_le _⟩
    · exact ⟨_, .fl (.int _), by decide +kernel, rfl, Nat.zero_le _⟩
    · exact ⟨_, .fl (.bl _), rfl, rfl, Nat.zero_le _⟩
    · exact ⟨_, .fl (.bl _), rfl, rfl, Nat.zero_le _⟩
    · exact ⟨_, .fl .non, rfl, rfl, Nat.zero_le _⟩
    · exact ⟨_, .fl (.str _), rfl, by decide +kernel, Nat.zero_le _⟩
    · exact ⟨_, .tup g8 (.int _), rfl, by decide +kernel, by decide +kernel⟩
    · exact ⟨_, .lst g9 (.int _), rfl, by decide +kernel, by decide +kernel⟩
  have D6b : Dr s H6 Hb := d7.trans ((Dr.of_same s7 (e8.trans (e9.trans ea))).trans db)
  have sb := db.src
  have hb := hands_dr hns h6 D6b
  have num := hb.num m mem
  walk_at "zz"
  refine z_new (by simp) (fun p1 I1 m1 f1 g1 => ?_)
  walk_at "zz"
  refine z_slT (f1 _ _ num) (fun r2 I2 f2 g2 => ?_)
  rw [cut_tk] at g2
  walk_at "zz"
  refine z_new (by simp) (fun r3 I3 m3 f3 g3 => ?_)
  refine z_catT (f3 _ _ g2) g3 (by rw [List.length_map, List.length_take]; simp only [List.length_cons, List.length_nil]; omega) (fun r4 I4 f4 g4 => ?_)
  walk_at "zz"
  refine z_slT (f4 _ _ (f3 _ _ (f2 _ _ (f1 _ _ num)))) (fun r5 I5 f5 g5 => ?_)
  rw [show ((at_ : Int) + 1) = ((at_ + 1 : Nat) : Int) from rfl, cut_frm] at g5
  refine z_catT (f5 _ _ g4) g5 (by rw [List.length_append, List.length_map, List.length_map, List.length_take, List.length_drop]; simp only [List.length_cons, List.length_nil]; omega) (fun r6 I6 f6 g6 => ?_)
  walk_at "zz"
  refine z_new (by simp) (fun p7 I7 m7 f7 g7 => ?_)
  walk_at "zz"
  refine z_new (by simp) (fun r8 I8 m8 f8 g8 => ?_)
  walk_at "zz"
  refine z_new (by simp) (fun p9 I9 m9 f9 g9 => ?_)
  walk_at "zz"
  refine z_new (by simp) (fun lA I10 m10 f10 g10 => ?_)
  have q10 : Same Hb I10 := f1.trans (f2.trans (f3.trans (f4.trans (f5.trans (f6.trans (f7.trans (f8.trans (f9.trans f10))))))))
  walk_at "zz"
  refine ⟨_, 4, _, rfl, rfl, SqT.of (q10 _ _ num), fun e => ?_, by decide, by decide, by rw [List.length_map]; omega, fun r11 m11 => ?_⟩
  · have := congrArg List.length e
    rw [List.length_map, List.length_nil] at this
    omega
  have f11 : Same I10 (upd I10 r11 (.tup (List.replicate (Int.toNat 4) (m.2.2.2.map V.int)).flatten)) := same_upd m11
  have g11 : upd I10 r11 (.tup (List.replicate (Int.toNat 4) (m.2.2.2.map V.int)).flatten) r11 = _ := upd_same
  generalize upd I10 r11 (.tup (List.replicate (Int.toNat 4) (m.2.2.2.map V.int)).flatten) = I11 at f11 g11 ⊢
  have e4 : (List.replicate (Int.toNat 4) (m.2.2.2.map V.int)).flatten = (m.2.2.2 ++ (m.2.2.2 ++ (m.2.2.2 ++ m.2.2.2))).map V.int := by
    show m.2.2.2.map V.int ++ (m.2.2.2.map V.int ++ (m.2.2.2.map V.int ++ (m.2.2.2.map V.int ++ []))) = _
    rw [List.map_append, List.map_append, List.map_append, List.append_nil]
  rw [e4] at g11
  walk_at "zz"
  refine z_new (by simp) (fun p12 I12 m12 f12 g12 => ?_)
  walk_at "zz"
  refine z_new (by simp) (fun l13 I13 m13 f13 g13 => ?_)
  refine z_cat (f13 _ _ (f12 _ _ (f11 _ _ g10))) g13 (by simp) (fun l14 I14 m14 f14 g14 => ?_)
  have q14 : Same I10 I14 := f11.trans (f12.trans (f13.trans f14))
  walk_at "zz"
  refine z_listT (q14 _ _ (q10 _ _ num)) (fun l15 I15 m15 f15 g15 => ?_)
  walk_at "zz"
  refine z_new (by simp) (fun p16 I16 m16 f16 g16 => ?_)
  walk_at "zz"
  refine z_new (by simp) (fun p17 I17 m17 f17 g17 => ?_)
  walk_at "zz"
  refine z_new (by simp) (fun p18 I18 m18 f18 g18 => ?_)
  walk_at "zz"
  refine z_new (by simp) (fun l19 I19 m19 f19 g19 => ?_)
  walk_at "zz"
  refine z_new (by simp) (fun l20 I20 m20 f20 g20 => ?_)
  have q20 : Same I14 I20 := f15.trans (f16.trans (f17.trans (f18.trans (f19.trans f20))))
  refine z_cat (q20 _ _ g14) g20 (by simp) (fun l21 I21 m21 f21 g21 => ?_)
  have q21 : Same Hb I21 := q10.trans (q14.trans (q20.trans f21))
  obtain ⟨n0, hn0⟩ : ∃ n0, m.2.2.2[0]? = some n0 := ⟨_, List.getElem?_eq_getElem (by omega)⟩
  walk_at "zz"
  refine z_ixT (SqT.of (q21 _ _ num)) (at_of (j := 0) rfl (by rw [List.getElem?_map, hn0]; rfl)) ?_
  walk_at "zz"
  refine z_new (by simp) (fun p23 I23 m23 f23 g23 => ?_)
  have q23 := q21.trans f23
  walk_at "zz"
  refine z_ixT (SqT.of (q23 _ _ (hb.tup m' mem'))) rfl ?_
  have zl : m'.2.1.length ≤ 8 := by
    have := ok.nm m' mem'
    unfold nmB at this
    rw [Bool.and_eq_true, Bool.and_eq_true] at this
    exact of_decide_eq_true this.2.1
  walk_at "zz"
  refine ⟨_, _, rfl, rfl, Nat.le_of_lt (small1000 (by show m'.2.1.length + 0 ≤ 1000; omega)), ?_⟩
  rw [str_nil]
  walk_at "zz"
  refine z_ixT (SqT.of (q23 _ _ (hb.tup m' mem'))) rfl ?_
  walk_at "zz"
  refine z_new (by simp) (fun p25 I25 m25 f25 g25 => ?_)
  walk_at "zz"
  refine z_new (by simp) (fun p26 I26 m26 f26 g26 => ?_)
  walk_at "zz"
  refine z_new (by simp) (fun l27 I27 m27 f27 g27 => ?_)
  refine z_cat (f27 _ _ (f26 _ _ (f25 _ _ (f23 _ _ g21)))) g27 (by simp) (fun l28 I28 m28 f28 g28 => ?_)
  have z27 := f28
  have z26 := f27.trans z27
  have z25 := f26.trans z26
  have z23 := f25.trans z25
  have z21 := f23.trans z23
  have z20 := f21.trans z21
  have z19 := f20.trans z20
  have z18 := f19.trans z19
  have z17 := f18.trans z18
  have z16 := f17.trans z17
  have z15 := f16.trans z16
  have z14 := f15.trans z15
  have z12 := f13.trans (f14.trans z14)
  have z11 := f12.trans z12
  have z10 := f11.trans z11
  have z9 := f10.trans z10
  have z8 := f9.trans z9
  have z7 := f8.trans z8
  have z6 := f7.trans z7
  have z1 := f2.trans (f3.trans (f4.trans (f5.trans (f6.trans z6))))
  have zb := f1.trans z1
  have s28 := sb.same zb
  have Db : Dr s Hb I28 := Dr.of_same sb zb
  walk_at "zz"
  refine ⟨s, l28, _, rfl, s28, src_new (sb.same (q23.trans (f25.trans (f26.trans f27)))) m28, g28, by simp, by simp, fun i v Hz hv dz => ?_⟩
  refine q v Hz (OddI.kp (G := hole s I28) ?_ (hole_dr dz)) (d1.trans (D6.trans (D6b.trans (Db.trans dz))))
  have ht : ∀ {p : Addr} {xs : List V}, I28 p = some (.tup xs) → hole s I28 p = some (.tup xs) := fun h => hole_get (src_tup s28 h) h
  have gq := ht (zb _ _ num)
  have st := lds.kp (hole_dr (D6b.trans Db))
  have od := ldo.kp (hole_dr Db)
  have gl15 : hole s I28 l15 = some (.lst (m.2.2.2.map V.int)) := hole_get (src_new (sb.same (q10.trans q14)) m15) (z15 _ _ g15)
  have gl19 : hole s I28 l19 = some (.lst [.str m.2.1, .ref m.2.2.1]) := hole_get (src_new (sb.same (q10.trans (q14.trans (f15.trans (f16.trans (f17.trans f18)))))) m19) (z19 _ _ g19)
  have nu : NuV (hole s I28) (.ref m.2.2.1) true := nu_ints gq (by omega) (by omega) far
  have ln : Lay (.str m.2.1) 2 := (lay_name zn).up (by decide)
  have li : Lay (.tuple (m.2.2.2.map PyData.int)) 2 := (lay_ints _).up (by decide)
  have mm := List.mem_of_getElem? hv
  clear hv
  simp only [List.mem_append, List.mem_cons, List.not_mem_nil, or_false] at mm
  rcases mm with (((rfl | rfl | rfl) | rfl) | (rfl | rfl | rfl | rfl | rfl | rfl | rfl)) | (rfl | rfl | rfl)
  · exact no_hand (ht (z1 _ _ g1)) (st.nm bds.1) nu rfl st.dp (dp_nums gq) (bds.2.up (by decide)) li
  · refine no_hand (ht (z7 _ _ g7)) (nm_str zn) (nu_odd (ht (z6 _ _ g6)) (od.own bdo.1)) rfl (.str _) (.tup (SqT.of (ht (z6 _ _ g6))) (dpAll_app (dpAll_app (dpInts _) (.cons od.dp .nil)) (dpInts _))) ln (lay_tup (n := 1) fun d hd => ?_)
    rcases List.mem_append.mp hd with hd | hd
    · rcases List.mem_append.mp hd with hd | hd
      · obtain ⟨j, _, rfl⟩ := List.mem_map.mp hd
        exact ⟨rfl, Nat.zero_le _⟩
      · rw [List.mem_singleton.mp hd]; exact bdo.2
    · obtain ⟨j, _, rfl⟩ := List.mem_map.mp hd
      exact ⟨rfl, Nat.zero_le _⟩
  · exact no_hand (ht (z9 _ _ g9)) (nm_str zn) (nu_of (ks := []) (k := false) (ht (z8 _ _ g8)) ⟨rfl, fun i x k hx => by simp at hx⟩ rfl) rfl (.str _) (.tup (SqT.of (ht (z8 _ _ g8))) .nil) ln ⟨rfl, by decide⟩
  · refine no_hand (ht (z12 _ _ g12)) (nm_str zn) (nu_of (k := false) (ht (z11 _ _ g11)) (own_ints _) ?_) rfl (.str _) (dp_nums (ht (z11 _ _ g11))) ln ((lay_ints _).up (by decide))
    unfold nuB
    rw [List.length_map, decide_eq_false (show ¬ (m.2.2.2 ++ (m.2.2.2 ++ (m.2.2.2 ++ m.2.2.2))).length ≤ 3 by rw [List.length_append, List.length_append, List.length_append]; omega), Bool.false_and, Bool.and_false]
  · exact no_hand (k2 := false) (ht (z16 _ _ g16)) (nm_str zn) (.inl ⟨_, .lst gl15, by decide, rfl⟩) rfl (.str _) (.lst (SqL.of gl15) (dpInts _)) ln ((lay_intsL _).up (by decide))
  · exact no_len (ht (z17 _ _ g17)) (by simp) (.cons (.str _) .nil) (fun d hd => by rw [List.mem_singleton.mp hd]; exact ln)
  · exact no_len (ht (z18 _ _ g18)) (by simp) (.cons (.str _) (.cons (dp_nums gq) (.cons (.int _) .nil))) (fun d hd => by
      simp only [List.mem_cons, List.not_mem_nil, or_false] at hd
      rcases hd with rfl | rfl | rfl
      · exact ln
      · exact li
      · exact ⟨rfl, Nat.zero_le _⟩)
  · exact .inl ⟨.inl ⟨_, .lst gl19, by decide, rfl⟩, _, .lst (SqL.of gl19) (.cons (.str _) (.cons (dp_nums gq) .nil)), lay_lst (n := 2) fun d hd => by
      simp only [List.mem_cons, List.not_mem_nil, or_false] at hd
      rcases hd with rfl | rfl
      · exact ln
      · exact li⟩
  · exact .inl ⟨.inl ⟨_, .str _, by decide, rfl⟩, _, .str _, ln.up (by decide)⟩
  · exact .inl ⟨.inl ⟨_, .non, by decide, rfl⟩, _, .non, rfl, Nat.zero_le _⟩
  · by_cases h2 : m.2.2.2.length = 2
    · obtain ⟨a, b, eab⟩ : ∃ a b, m.2.2.2 = [a, b] := by
        match hm2 : m.2.2.2, h2 with
        | [a, b], _ => exact ⟨a, b, rfl⟩
      rw [eab] at gq
      exact no_hand (k1 := false) (k2 := false) gq (.inl ⟨_, .int a, by decide, rfl⟩) (.inl ⟨_, .int b, by decide, rfl⟩) rfl (.int _) (.int _) ⟨rfl, Nat.zero_le _⟩ ⟨rfl, Nat.zero_le _⟩
    · exact no_len gq (by rw [List.length_map]; exact h2) (dpInts _) (fun d hd => by
        obtain ⟨j, _, rfl⟩ := List.mem_map.mp hd
        exact ⟨rfl, Nat.zero_le _⟩)
  · exact no_hand (k2 := false) (ht (z23 _ _ g23)) (nm_str zn) (.inl ⟨_, .int n0, by decide, rfl⟩) rfl (.str _) (.int _) ln ⟨rfl, Nat.zero_le _⟩
  · exact .inr ⟨m', mem', p25, rfl, ht (z25 _ _ g25)⟩
  · exact no_hand (k1 := false) (k2 := false) (ht (z26 _ _ g26)) (.inl ⟨_, .tup gq, by decide, rfl⟩) (.inl ⟨_, .str _, by decide, rfl⟩) rfl (dp_nums gq) (.str _) li ln
def spOddHands : Sp := fun vs H Q _ => ∃ (s h : Addr) (L : List HandR) (n : Nat), vs = [.ref s, .ref h] ∧ Src H s ∧ h ≠ s ∧ Hands H h L ∧ HandsOk L n ∧ ∀ (v : V) (H' : Hp), HandsX (hole s H') v → Dr s H H' → Q v H'
theorem ok__law_odd_hands {f : Addr} {fd : FuncData} (F : FnP K "_law_odd_hands" s__law_odd_hands f fd) (m_len : mg "len" = none) (m_tuple : mg "tuple" = none) (m_dict : mg "dict" = none) (h__law_draw : Has P w K mg base 2 "_law_draw" ["_law_well_here", "_law_many"] spDraw) (h__law_pick : Has P w K mg base 3 "_law_pick" ["_law_well_here", "_law_some"] spPick) (h__law_odd_hand : Has P w K mg base 4 "_law_odd_hand" ["_law_well_here", "_law_hands"] (spOddHand K)) : FnOk P w K mg base CX0 5 f fd ["_law_well_here", "_law_hands"] spOddHands := by
  refine F.ok sc__law_odd_hands (fun vs H Q E h => ?_) (fun cdv A outer s0 H vs Q E hr h => ?_)
  · obtain ⟨s, h, L, n, rfl, _⟩ := h; rfl
  obtain ⟨s, h, L, n, rfl, hs, hns, hh, ok, q⟩ := h
  have ll : (L.map fun m => V.ref m.1).length = L.length := List.length_map ..
  have o1 := ok.one
  have o8 := ok.few
  have n1 := ok.n1
  have n3 := ok.n3
  obtain ⟨m0, hm0⟩ : ∃ m0, L[0]? = some m0 := ⟨_, List.getElem?_eq_getElem (by omega)⟩
  have mem0 := List.mem_of_getElem? hm0
  refine ⟨_, PSs.nox (pss_cons (ps_set (i := 2) sc__law_odd_hands.nd rfl (.inl rfl) (pe_callH h__law_draw (hr.mono (by decide)) (by rfl) (pa_cons (pv 0) (pa_cons pe_int pa_nil))))
  (pss_cons (ps_set (i := 3) sc__law_odd_hands.nd rfl (.inl rfl) (pe_callH h__law_draw (hr.mono (by decide)) (by rfl) (pa_cons (pv 0) (pa_cons (pe_callB (call_lenE K) (by rfl) m_len (by decide +kernel) (pa_cons (pv 1) pa_nil)) pa_nil))))
  (pss_cons (ps_if (pt_cmpR op_eq (pv 2) pe_int (nomark _))
    (pss_one (ps_ret (pe_callH h__law_pick (hr.mono (by decide)) (by rfl) (pa_cons (pv 0) (pa_cons (pe_lst (pa_cons (pe_lst pa_nil) (pa_cons (pe_callTy (call_tupleE K) (by rfl) m_tuple (by decide +kernel) (pa_cons (pv 1) pa_nil)) (pa_cons pe_non (pa_cons (pe_callTy (call_dictQ K rfl) (by rfl) m_dict (by decide +kernel) (pa_cons (pv 1) pa_nil)) (pa_cons pe_str (pa_cons pe_int (pa_cons (pe_ix (ix_listE K) (pv 1) pe_int (fun _ _ => rfl)) (pa_cons (pe_lst (pa_cons (pv 1) pa_nil)) pa_nil))))))))) pa_nil)))))
    pss_nil)
  (pss_cons (ps_if (pt_cmpR op_eq (pv 2) pe_int (nomark _))
    (pss_cons (ps_setLc (i := 4) (own := [("_law_one", 7)]) (g := (gName 7)) (by rfl) sc__law_odd_hands.nd rfl rfl (sw_true rfl rfl rfl (by decide +kernel)) (pi_str pe_str) (blkOk_by (own := [("_law_one", 7)]) (N := ["_law_well_here", "_law_hands", "_law_way", "_law_at", "_law_spare", "_law_shorter", "_law_odd", "_law_one"]) (sc := defScope s__law_odd_hands) (by decide +kernel)) (fun _ _ _ _ _ => (pg_name (i := 7) sc__law_odd_hands.nd rfl (.inl rfl))) (fun _ _ _ _ _ => pts_nil) (fun _ _ _ _ _ => (pe_op op_add_str pe_str (pv 7))))
  (pss_one (ps_ret (pe_op op_cat (pe_op op_cat (pe_slice (sl_listE K) (pv 1) po_none (po_some (pv 3))) (pe_lc (own := [("_law_one", 7)]) (g := (gName 7)) (by rfl) sc__law_odd_hands.nd (pi_listE K (pe_slice (sl_listE K) (pv 4) po_none (po_some (pe_op op_sub pe_int (pe_callB (call_lenE K) (by rfl) m_len (by decide +kernel) (pa_cons (pv 1) pa_nil)))))) (blkOk_by (own := [("_law_one", 7)]) (N := ["_law_well_here", "_law_hands", "_law_way", "_law_at", "_law_spare", "_law_shorter", "_law_odd", "_law_one"]) (sc := defScope s__law_odd_hands) (by decide +kernel)) (fun _ _ _ _ _ => (pg_name (i := 7) sc__law_odd_hands.nd rfl (.inl rfl))) (fun _ _ _ _ _ => pts_nil) (fun _ _ _ _ _ => (pe_tup (pa_cons (pv 7) (pa_cons (pe_ix (ix_tupE K) (pe_ix (ix_listE K) (pv 1) pe_int (fun _ _ => rfl)) pe_int (fun _ _ => rfl)) pa_nil)))))) (pe_slice (sl_listE K) (pv 1) (po_some (pv 3)) po_none)))))
    pss_nil)
  (pss_cons (ps_if (pt_cmpR op_eq (pv 2) pe_int (nomark _))
    (pss_one (ps_ret (pe_op op_cat (pe_op op_cat (pe_slice (sl_listE K) (pv 1) po_none (po_some (pv 3))) (pe_lst (pa_cons (pe_tup (pa_cons (pe_ix (ix_tupE K) (pe_ix (ix_listE K) (pv 1) (pe_callH h__law_draw (hr.mono (by decide)) (by rfl) (pa_cons (pv 0) (pa_cons (pe_callB (call_lenE K) (by rfl) m_len (by decide +kernel) (pa_cons (pv 1) pa_nil)) pa_nil))) (fun _ _ => rfl)) pe_int (fun _ _ => rfl)) (pa_cons (pe_ix (ix_tupE K) (pe_ix (ix_listE K) (pv 1) pe_int (fun _ _ => rfl)) pe_int (fun _ _ => rfl)) pa_nil))) pa_nil))) (pe_slice (sl_listE K) (pv 1) (po_some (pv 3)) po_none))))
    pss_nil)
  (pss_cons (ps_if (pt_cmpR op_eq (pv 2) pe_int (nomark _))
    (pss_cons (ps_set (i := 5) sc__law_odd_hands.nd rfl (.inl rfl) (pe_op (op_repTE K) (pe_ix (ix_tupE K) (pe_ix (ix_listE K) (pv 1) pe_int (fun _ _ => rfl)) pe_int (fun _ _ => rfl)) pe_int))
  (pss_one (ps_ret (pe_op op_cat (pe_op op_cat (pe_slice (sl_listE K) (pv 1) po_none (po_some (pv 3))) (pe_lst (pa_cons (pe_tup (pa_cons pe_str (pa_cons (pe_slice (sl_tupE K) (pv 5) po_none (po_some (pe_op op_add pe_int (pe_op op_modN (pe_callB (call_lenE K) (by rfl) m_len (by decide +kernel) (pa_cons (pe_ix (ix_tupE K) (pe_ix (ix_listE K) (pv 1) pe_int (fun _ _ => rfl)) pe_int (fun _ _ => rfl)) pa_nil)) pe_int)))) pa_nil))) pa_nil))) (pe_slice (sl_listE K) (pv 1) (po_some (pv 3)) po_none)))))
    pss_nil)
  (pss_cons (ps_set (i := 6) sc__law_odd_hands.nd rfl (.inl rfl) (pe_callH h__law_odd_hand (hr.mono (by decide)) (by rfl) (pa_cons (pv 0) (pa_cons (pv 1) pa_nil))))
  (pss_cons (ps_if (pt_cmpR (op_inDE K (units65 hr)) (pv 6) (pv 1) (by rfl))
    (pss_one (ps_ret (pe_op op_cat (pv 1) (pe_lst (pa_cons (pv 6) pa_nil)))))
    pss_nil)
  (pss_one (ps_ret (pe_op op_cat (pe_op op_cat (pe_slice (sl_listE K) (pv 1) po_none (po_some (pv 3))) (pe_lst (pa_cons (pv 6) pa_nil))) (pe_slice (sl_listE K) (pv 1) (po_some (pe_op op_add (pv 3) pe_int)) po_none)))))))))))), ?_⟩
  walk_at "zz"
  refine ⟨s, _, rfl, by decide, by decide +kernel, hs, fun way H1 w0 w1 d1 => ?_⟩
  walk_at "zz"
  have h1 := hands_dr hns hh d1
  refine z_lenL (SqL.of h1.lst) ?_
  walk_at "zz"
  rw [ll]
  refine ⟨s, _, rfl, by omega, Nat.lt_of_le_of_lt (m := 1000) (by omega) (by decide +kernel), d1.src, fun ra H2 a0 a1 d2 => ?_⟩
  obtain ⟨at_, rfl⟩ : ∃ j : Nat, ra = (j : Int) := ⟨ra.toNat, by omega⟩
  have D2 := d1.trans d2
  have s2 := d2.src
  have h2 := hands_dr hns hh D2
  have tk8 : (L.take at_).length + (L.drop at_).length = L.length := by rw [List.length_take, List.length_drop]; omega
  have hdt : ∀ {G : Hp}, (∀ m ∈ L, G m.1 = some (.tup [.str m.2.1, .ref m.2.2.1])) → (∀ m ∈ L, G m.2.2.1 = some (.tup (m.2.2.2.map V.int))) → ∀ m ∈ L, HdV G (.ref m.1) true := fun a b m hm => hd_true (a m hm) (b m hm) (ok.nm m hm) (by rw [ok.len m hm]; omega) (ok.far m hm)
  walk_at "zz"
  refine z_ite (fun hw => ?_) (fun hw => ?_)
  · walk_at "zz"
    refine z_new (by simp) (fun l3 H3 n3' e3 h3 => ?_)
    walk_at "zz"
    refine z_tupleL (e3 _ _ h2.lst) (fun p4 H4 n4 e4 h4 => ?_)
    have e24 := e3.trans e4
    walk_at "zz"
    refine ⟨h, L.map (fun m => m.1), _, rfl, by rw [List.map_map]; exact SqL.of (e24 _ _ h2.lst), paired_hands fun m hm => e24 _ _ (h2.tup m hm), fun p5 n5 => ?_⟩
    have e5 : Same H4 (upd H4 p5 (.dK (mergeK [] (L.map fun m => ((.inr m.2.1 : Key), V.ref m.2.2.1))))) := same_upd n5
    have h5 : upd H4 p5 (.dK (mergeK [] (L.map fun m => ((.inr m.2.1 : Key), V.ref m.2.2.1)))) p5 = _ := upd_same
    generalize upd H4 p5 (.dK (mergeK [] (L.map fun m => ((.inr m.2.1 : Key), V.ref m.2.2.1)))) = H5 at e5 h5 ⊢
    have e25 := e24.trans e5
    walk_at "zz"
    refine z_ixL (SqL.of (e25 _ _ h2.lst)) (at_of (j := 0) (v := .ref m0.1) rfl (by rw [List.getElem?_map, hm0]; rfl)) ?_
    walk_at "zz"
    refine z_new (by simp) (fun l6 H6 n6 e6 h6 => ?_)
    walk_at "zz"
    refine z_new (by simp) (fun l7 H7 n7 e7 h7 => ?_)
    have e27 := e25.trans (e6.trans e7)
    have s7 := s2.same e27
    have s3 := s2.same e3
    refine ⟨s, l7, _, rfl, s7, src_new (s2.same (e25.trans e6)) n7, h7, by simp, by simp, fun i v H8 hv d8 => ?_⟩
    refine q v H8 (HandsX.kp (H := hole s H7) ?_ (hole_dr d8)) (D2.trans ((Dr.of_same s2 e27).trans d8))
    have mm := List.mem_of_getElem? hv
    clear hv
    simp only [List.mem_cons, List.not_mem_nil, or_false] at mm
    rcases mm with rfl | rfl | rfl | rfl | rfl | rfl | rfl | rfl
    · exact .inl (.inr ⟨l3, [], rfl, hole_get (src_new s2 n3') (e7 _ _ (e6 _ _ (e5 _ _ (e4 _ _ h3)))), .inl rfl⟩)
    · exact .inl (.inl ⟨_, .tup (hole_get (src_new s3 n4) (e7 _ _ (e6 _ _ (e5 _ _ h4)))), by decide⟩)
    · exact .inl (.inl ⟨_, .non, by decide⟩)
    · exact .inl (.inl ⟨_, .dct (hole_get (src_new (s2.same e24) n5) (e7 _ _ (e6 _ _ h5))), by decide⟩)
    · exact .inl (.inl ⟨_, .str _, by decide⟩)
    · exact .inl (.inl ⟨_, .int _, by decide⟩)
    · exact .inl (.inl ⟨_, .tup (hole_get (src_tup s7 (e27 _ _ (h2.tup m0 mem0))) (e27 _ _ (h2.tup m0 mem0))), by decide⟩)
    · have g6 : hole s H7 l6 = some (.lst [.ref h]) := hole_get (src_new (s2.same e25) n6) (e7 _ _ h6)
      have gh : hole s H7 h = some (.lst (L.map fun m => .ref m.1)) := hole_get hns (e27 _ _ h2.lst)
      exact hands_bad (A := []) (B := []) g6 (.inl ⟨_, .lst gh, by decide, rfl⟩) (fun m hm => by simp at hm)
  · walk_at "zz"
    refine z_ite (fun hw => ?_) (fun hw => ?_)
    · walk_at "zz"
      refine ⟨_, rfl, fun E1 nE1 => lc_str (z := "abcdefghi") (fun i H' => Same H2 H' ∧ ∃ ws : List Str, H' E1 = some (.lst (ws.map V.str)) ∧ ws.length = i) ⟨same_upd nE1, [], upd_same, rfl⟩ ?_ ?_⟩
      · rintro i c H3 hc ⟨e3, ws, hD, lw⟩
        have i9 : i < 9 := by
          obtain ⟨hi, _⟩ := Array.getElem?_eq_some_iff.mp hc
          exact hi
        refine ⟨rfl, ?_⟩
        walk_at "zz"
        refine ⟨_, _, rfl, rfl, Nat.le_of_lt (small1000 (by show 5 + 1 ≤ 1000; decide)), ?_⟩
        exact ⟨_, hD, small1000 (by rw [List.length_map]; omega), fun b o hb => by rw [upd_ne (ne_of_none hb nE1)]; exact e3 _ _ hb, ws ++ [_], by rw [upd_same, List.map_append]; rfl, by rw [List.length_append, lw]; rfl⟩
      · rintro H3 ⟨e3, ws, hD, lw⟩
        have lw9 : ws.length = 9 := lw
        walk_at "zz"
        refine z_slL (SqL.of (e3 _ _ h2.lst)) (fun l4 H4 n4 e4 h4 => ?_)
        rw [cut_tk] at h4
        have e24 := e3.trans e4
        walk_at "zz"
        show iList K _ _ _ _
        walk_at "zz"
        refine z_lenL (SqL.of (e24 _ _ h2.lst)) ?_
        walk_at "zz"
        rw [ll]
        refine z_slL (SqL.of (e4 _ _ hD)) (fun l5 H5 n5 e5 h5 => ?_)
        rw [show ((9 : Int) - (L.length : Int)) = ((9 - L.length : Nat) : Int) by omega, cut_tk] at h5
        have e25 := e24.trans e5
        have lt : (ws.take (9 - L.length)).length = 9 - L.length := by rw [List.length_take]; omega
        refine ⟨l5, rfl, ⟨_, SqL.of h5⟩, fun E2 nE2 => lc_list (xs := (ws.take (9 - L.length)).map V.str) (fun i H' => Same H5 H' ∧ ∃ xs : List V, H' E2 = some (.lst xs) ∧ xs.length = i) ⟨same_upd nE2, [], upd_same, rfl⟩ (fun i H' _ hp => SqL.of (hp.1 _ _ h5)) ?_ ?_⟩
        · rintro i x H6 hx ⟨e6, xs, h6, l6⟩
          rw [List.getElem?_map] at hx
          obtain ⟨u, hu, rfl⟩ := Option.map_eq_some_iff.mp hx
          have il : i < 9 := by have := (List.getElem?_eq_some_iff.mp hu).1; omega
          have e26 := e25.trans e6
          refine ⟨rfl, ?_⟩
          walk_at "zz"
          refine z_ixL (SqL.of (e26 _ _ h2.lst)) (at_of (j := 0) (v := .ref m0.1) rfl (by rw [List.getElem?_map, hm0]; rfl)) ?_
          walk_at "zz"
          refine z_ixT (SqT.of (e26 _ _ (h2.tup m0 mem0))) rfl ?_
          walk_at "zz"
          refine z_new (by simp) (fun p7 H7 n7 e7 h7 => ?_)
          exact ⟨_, e7 _ _ h6, small1000 (by omega), fun b o hb => by rw [upd_ne (ne_of_none hb nE2)]; exact e7 _ _ (e6 _ _ hb), xs ++ [.ref p7], upd_same, by rw [List.length_append, l6]; rfl⟩
        · rintro H6 ⟨e6, xs, h6, l6⟩
          rw [List.length_map, lt] at l6
          have e26 := e25.trans e6
          refine z_cat (e6 _ _ (e5 _ _ h4)) h6 (by rw [List.length_map, List.length_take]; omega) (fun l7 H7 n7 e7 h7 => ?_)
          walk_at "zz"
          refine z_slL (SqL.of (e7 _ _ (e26 _ _ h2.lst))) (fun l8 H8 n8 e8 h8 => ?_)
          rw [cut_frm] at h8
          refine z_cat (e8 _ _ h7) h8 (by rw [List.length_append, List.length_map, List.length_map, List.length_take, List.length_drop]; omega) (fun l9 H9 n9 e9 h9 => ?_)
          have e29 := e26.trans (e7.trans (e8.trans e9))
          refine q (.ref l9) H9 (.inl (.inr ⟨l9, _, rfl, hole_get (src_new (s2.same (e26.trans (e7.trans e8))) n9) h9, .inr (.inl ?_)⟩)) (D2.trans (Dr.of_same s2 e29))
          rw [List.length_append, List.length_append, List.length_map, List.length_map, List.length_take, List.length_drop]
          omega
    · walk_at "zz"
      refine z_ite (fun hw => ?_) (fun hw => ?_)
      · walk_at "zz"
        refine z_slL (SqL.of h2.lst) (fun l3 H3 n3' e3 h3 => ?_)
        rw [cut_tk] at h3
        walk_at "zz"
        refine z_lenL (SqL.of (e3 _ _ h2.lst)) ?_
        walk_at "zz"
        rw [ll]
        have s3 := s2.same e3
        refine ⟨s, _, rfl, by omega, Nat.lt_of_le_of_lt (m := 1000) (by omega) (by decide +kernel), s3, fun rj H4 j0 j1 d4 => ?_⟩
        obtain ⟨j, rfl⟩ : ∃ j : Nat, rj = (j : Int) := ⟨rj.toNat, by omega⟩
        obtain ⟨mj, hmj⟩ : ∃ mj, L[j]? = some mj := ⟨_, List.getElem?_eq_getElem (by omega)⟩
        have memj := List.mem_of_getElem? hmj
        have D4 : Dr s H2 H4 := (Dr.of_same s2 e3).trans d4
        have h4 := hands_dr hns h2 D4
        have h34 := d4.keep _ _ (src_new s2 n3') h3
        walk_at "zz"
        refine z_ixL (SqL.of h4.lst) (at_of (j := j) (v := .ref mj.1) rfl (by rw [List.getElem?_map, hmj]; rfl)) ?_
        walk_at "zz"
        refine z_ixT (SqT.of (h4.tup mj memj)) rfl ?_
        walk_at "zz"
        refine z_ixL (SqL.of h4.lst) (at_of (j := 0) (v := .ref m0.1) rfl (by rw [List.getElem?_map, hm0]; rfl)) ?_
        walk_at "zz"
        refine z_ixT (SqT.of (h4.tup m0 mem0)) rfl ?_
        walk_at "zz"
        refine z_new (by simp) (fun p5 H5 n5 e5 h5 => ?_)
        walk_at "zz"
        refine z_new (by simp) (fun l6 H6 n6 e6 h6 => ?_)
        refine z_cat (e6 _ _ (e5 _ _ h34)) h6 (by rw [List.length_map, List.length_take]; simp only [List.length_cons, List.length_nil]; omega) (fun l7 H7 n7 e7 h7 => ?_)
        have e47 := e5.trans (e6.trans e7)
        walk_at "zz"
        refine z_slL (SqL.of (e47 _ _ h4.lst)) (fun l8 H8 n8 e8 h8 => ?_)
        rw [cut_frm] at h8
        refine z_cat (e8 _ _ h7) h8 (by rw [List.length_append, List.length_map, List.length_map, List.length_take, List.length_drop]; simp only [List.length_cons, List.length_nil]; omega) (fun l9 H9 n9 e9 h9 => ?_)
        have e49 := e47.trans (e8.trans e9)
        have s4 := d4.src
        have s9 := s4.same e49
        have h9' := hands_dr hns h4 (Dr.of_same s4 e49)
        have mem' : ∀ x ∈ L.take at_ ++ [(p5, mj.2.1, m0.2.2.1, m0.2.2.2)] ++ L.drop at_, x ∈ L ∨ x = (p5, mj.2.1, m0.2.2.1, m0.2.2.2) := fun x hx => by
          rcases List.mem_append.mp hx with hx | hx
          · rcases List.mem_append.mp hx with hx | hx
            · exact .inl (List.mem_of_mem_take hx)
            · exact .inr (List.mem_singleton.mp hx)
          · exact .inl (List.mem_of_mem_drop hx)
        have t5 : H9 p5 = some (.tup [.str mj.2.1, .ref m0.2.2.1]) := e9 _ _ (e8 _ _ (e7 _ _ (e6 _ _ h5)))
        refine q (.ref l9) H9 (hands_two (L := L.take at_ ++ [(p5, mj.2.1, m0.2.2.1, m0.2.2.2)] ++ L.drop at_) (hands_hole s9 (src_new (s4.same (e47.trans e8)) n9) ⟨?_, fun x hx => ?_, fun x hx => ?_⟩) ?_ (fun x hx => ?_) (fun x hx => ?_) (fun x hx => ?_) (fun z => ?_)) (D2.trans (D4.trans (Dr.of_same s4 e49)))
        · rw [h9, List.map_append, List.map_append]
          rfl
        · rcases mem' x hx with hx | rfl
          · exact h9'.tup x hx
          · exact t5
        · rcases mem' x hx with hx | rfl
          · exact h9'.num x hx
          · exact h9'.num m0 mem0
        · rw [List.length_append, List.length_append]
          simp only [List.length_cons, List.length_nil]
          omega
        · rcases mem' x hx with hx | rfl
          · exact ok.nm x hx
          · exact ok.nm mj memj
        · rcases mem' x hx with hx | rfl
          · rw [ok.len x hx]; omega
          · show 1 ≤ m0.2.2.2.length ∧ m0.2.2.2.length ≤ 3
            rw [ok.len m0 mem0]; omega
        · rcases mem' x hx with hx | rfl
          · exact ok.far x hx
          · exact ok.far m0 mem0
        · have nd := z.1
          rw [show nmsOf (L.take at_ ++ [(p5, mj.2.1, m0.2.2.1, m0.2.2.2)] ++ L.drop at_) = nmsOf (L.take at_) ++ [mj.2.1] ++ nmsOf (L.drop at_) by rw [nmsOf, List.map_append, List.map_append]; rfl] at nd
          have inn : mj ∈ L.take at_ ∨ mj ∈ L.drop at_ := List.mem_append.mp (by rw [List.take_append_drop]; exact memj)
          rw [List.nodup_append] at nd
          obtain ⟨nd1, _, nd2⟩ := nd
          rw [List.nodup_append] at nd1
          rcases inn with h | h
          · exact nd1.2.2 mj.2.1 (List.mem_map.mpr ⟨mj, h, rfl⟩) mj.2.1 (by simp) rfl
          · exact nd2 mj.2.1 (by simp) mj.2.1 (List.mem_map.mpr ⟨mj, h, rfl⟩) rfl
      · walk_at "zz"
        refine z_ite (fun hw => ?_) (fun hw => ?_)
        · walk_at "zz"
          refine z_ixL (SqL.of h2.lst) (at_of (j := 0) (v := .ref m0.1) rfl (by rw [List.getElem?_map, hm0]; rfl)) ?_
          walk_at "zz"
          refine z_ixT (SqT.of (h2.tup m0 mem0)) rfl ?_
          walk_at "zz"
          have l0 := ok.len m0 mem0
          refine ⟨_, 2, _, rfl, rfl, SqT.of (h2.num m0 mem0), fun e => ?_, by decide, by decide, by rw [List.length_map]; omega, fun r3 m3 => ?_⟩
          · have := congrArg List.length e
            rw [List.length_map, List.length_nil] at this
            omega
          have e3 : Same H2 (upd H2 r3 (.tup (List.replicate (Int.toNat 2) (m0.2.2.2.map V.int)).flatten)) := same_upd m3
          have g3 : upd H2 r3 (.tup (List.replicate (Int.toNat 2) (m0.2.2.2.map V.int)).flatten) r3 = _ := upd_same
          generalize upd H2 r3 (.tup (List.replicate (Int.toNat 2) (m0.2.2.2.map V.int)).flatten) = H3 at e3 g3 ⊢
          have e2 : (List.replicate (Int.toNat 2) (m0.2.2.2.map V.int)).flatten = (m0.2.2.2 ++ m0.2.2.2).map V.int := by
            show m0.2.2.2.map V.int ++ (m0.2.2.2.map V.int ++ []) = _
            rw [List.map_append, List.append_nil]
          rw [e2] at g3
          walk_at "zz"
          refine z_slL (SqL.of (e3 _ _ h2.lst)) (fun l4 H4 n4 e4 h4 => ?_)
          rw [cut_tk] at h4
          have e24 := e3.trans e4
          walk_at "zz"
          refine z_ixL (SqL.of (e24 _ _ h2.lst)) (at_of (j := 0) (v := .ref m0.1) rfl (by rw [List.getElem?_map, hm0]; rfl)) ?_
          walk_at "zz"
          refine z_ixT (SqT.of (e24 _ _ (h2.tup m0 mem0))) rfl ?_
          walk_at "zz"
          refine z_lenT (e24 _ _ (h2.num m0 mem0)) ?_
          walk_at "zz"
          rw [List.length_map, l0]
          obtain ⟨k, hk, k1, k3, kn, k2n⟩ : ∃ k : Nat, (1 : Int) + (n : Int).fmod 3 = (k : Int) ∧ 1 ≤ k ∧ k ≤ 3 ∧ k ≠ n ∧ k ≤ 2 * n := by
            rcases (show n = 1 ∨ n = 2 ∨ n = 3 by omega) with rfl | rfl | rfl
            · exact ⟨2, by decide, by decide, by decide, by decide, by decide⟩
            · exact ⟨3, by decide, by decide, by decide, by decide, by decide⟩
            · exact ⟨1, by decide, by decide, by decide, by decide, by decide⟩
          rw [hk]
          refine z_slT (e4 _ _ g3) (fun r5 H5 e5 h5 => ?_)
          rw [cut_tk] at h5
          have lk : ((m0.2.2.2 ++ m0.2.2.2).take k).length = k := by
            rw [List.length_take, List.length_append]
            omega
          have fark : ∀ x ∈ (m0.2.2.2 ++ m0.2.2.2).take k, inFar x = true := fun x hx => (List.mem_append.mp (List.mem_of_mem_take hx)).elim (ok.far m0 mem0 x) (ok.far m0 mem0 x)
          generalize (m0.2.2.2 ++ m0.2.2.2).take k = nk at h5 lk fark
          walk_at "zz"
          refine z_new (by simp) (fun p6 H6 n6 e6 h6 => ?_)
          walk_at "zz"
          refine z_new (by simp) (fun l7 H7 n7 e7 h7 => ?_)
          refine z_cat (e7 _ _ (e6 _ _ (e5 _ _ h4))) h7 (by rw [List.length_map, List.length_take]; simp only [List.length_cons, List.length_nil]; omega) (fun l8 H8 n8 e8 h8 => ?_)
          have e48 := e5.trans (e6.trans (e7.trans e8))
          have e28 := e24.trans e48
          walk_at "zz"
          refine z_slL (SqL.of (e28 _ _ h2.lst)) (fun l9 H9 n9 e9 h9 => ?_)
          rw [cut_frm] at h9
          refine z_cat (e9 _ _ h8) h9 (by rw [List.length_append, List.length_map, List.length_map, List.length_take, List.length_drop]; simp only [List.length_cons, List.length_nil]; omega) (fun la Ha na ea ha => ?_)
          have e2a := e28.trans (e9.trans ea)
          have sa := s2.same e2a
          have h9' := hands_dr hns h2 (Dr.of_same s2 e2a)
          have t6 : Ha p6 = some (.tup [.str "odd", .ref r5]) := ea _ _ (e9 _ _ (e8 _ _ (e7 _ _ h6)))
          have t5 : Ha r5 = some (.tup (nk.map V.int)) := ea _ _ (e9 _ _ (e8 _ _ (e7 _ _ (e6 _ _ h5))))
          have mem' : ∀ x ∈ L.take at_ ++ [((p6, ("odd" : Str), r5, nk) : HandR)] ++ L.drop at_, x ∈ L ∨ x = (p6, ("odd" : Str), r5, nk) := fun x hx => by
            rcases List.mem_append.mp hx with hx | hx
            · rcases List.mem_append.mp hx with hx | hx
              · exact .inl (List.mem_of_mem_take hx)
              · exact .inr (List.mem_singleton.mp hx)
            · exact .inl (List.mem_of_mem_drop hx)
          refine q (.ref la) Ha (hands_two (L := L.take at_ ++ [((p6, ("odd" : Str), r5, nk) : HandR)] ++ L.drop at_) (hands_hole sa (src_new (s2.same (e28.trans e9)) na) ⟨?_, fun x hx => ?_, fun x hx => ?_⟩) ?_ (fun x hx => ?_) (fun x hx => ?_) (fun x hx => ?_) (fun z => ?_)) (D2.trans (Dr.of_same s2 e2a))
          · rw [ha, List.map_append, List.map_append]
            rfl
          · rcases mem' x hx with hx | rfl
            · exact h9'.tup x hx
            · exact t6
          · rcases mem' x hx with hx | rfl
            · exact h9'.num x hx
            · exact t5
          · rw [List.length_append, List.length_append]
            simp only [List.length_cons, List.length_nil]
            omega
          · rcases mem' x hx with hx | rfl
            · exact ok.nm x hx
            · show nmB "odd" = true
              decide +kernel
          · rcases mem' x hx with hx | rfl
            · rw [ok.len x hx]; omega
            · show 1 ≤ nk.length ∧ nk.length ≤ 3
              omega
          · rcases mem' x hx with hx | rfl
            · exact ok.far x hx
            · exact fark
          · have i1 : ((p6, ("odd" : Str), r5, nk) : HandR) ∈ L.take at_ ++ [((p6, ("odd" : Str), r5, nk) : HandR)] ++ L.drop at_ := List.mem_append_left _ (List.mem_append_right _ (by simp))
            have i2 : m0 ∈ L.take at_ ++ [((p6, ("odd" : Str), r5, nk) : HandR)] ++ L.drop at_ := by
              rcases List.mem_append.mp (show m0 ∈ L.take at_ ++ L.drop at_ by rw [List.take_append_drop]; exact mem0) with h | h
              · exact List.mem_append_left _ (List.mem_append_left _ h)
              · exact List.mem_append_right _ h
            have e := z.2 _ i1 _ i2
            have e' : nk.length = m0.2.2.2.length := e
            omega
        · walk_at "zz"
          refine ⟨s, h, L, n, rfl, s2, hns, h2, ok, fun odd H3 od d3 => ?_⟩
          have D3 := D2.trans d3
          have s3 := d3.src
          have h3 := hands_dr hns h2 d3
          have g3 := hands_hole s3 hns h3
          have lay : ∀ m ∈ L, Lay (handD m) 3 := fun m hm => lay_tup (n := 2) fun d hd => by
            simp only [List.mem_cons, List.not_mem_nil, or_false] at hd
            rcases hd with rfl | rfl
            · exact (lay_name (ok.nm m hm)).up (by decide)
            · exact (lay_ints _).up (by decide)
          have dpm : ∀ m ∈ L, ∀ p, H3 p = some (.tup [.str m.2.1, .ref m.2.2.1]) → Dp K H3 (.ref p) (handD m) := fun m hm p hp => .tup (SqT.of hp) (.cons (.str _) (.cons (dp_nums (h3.num m hm)) .nil))
          have dpl : Dp K H3 (.ref h) (.list (L.map handD)) := .lst (SqL.of h3.lst) (dpAll_map fun m hm => dpm m hm _ (h3.tup m hm))
          have shl : SeqAt.shaped (.list (L.map handD)) = true := sh_of (n := 4) (lay_lst (n := 3) fun d hd => by
            obtain ⟨m, hm, rfl⟩ := List.mem_map.mp hd
            exact lay m hm) (by decide)
          have app : ∀ (l9 : Addr) (H9 : Hp), Same H3 H9 → l9 ≠ s → H9 l9 = some (.lst ((L.map fun m => V.ref m.1) ++ [odd])) → Q (.ref l9) H9 := fun l9 H9 e9 n9 h9 => by
            have s9 := s3.same e9
            have k9 : Kp (hole s H3) (hole s H9) := hole_dr (Dr.of_same s3 e9)
            have g9 := g3.kp k9
            refine q (.ref l9) H9 ?_ (D3.trans (Dr.of_same s3 e9))
            rcases od with ⟨hd, _⟩ | ⟨m, hm, p, rfl, hp⟩
            · exact hands_bad (A := L) (B := []) (hole_get n9 (by rw [h9]; simp)) (hd.kp k9) (fun m hm => hdt g9.tup g9.num m (hm.resolve_right (by simp)))
            · have tp := k9.tup hp
              refine hands_two (L := L ++ [(p, m.2.1, m.2.2.1, m.2.2.2)]) ⟨hole_get n9 (by rw [h9, List.map_append]; rfl), fun x hx => ?_, fun x hx => ?_⟩ (by rw [List.length_append]; omega) (fun x hx => ?_) (fun x hx => ?_) (fun x hx => ?_) (fun z => ?_)
              · rcases List.mem_append.mp hx with hx | hx
                · exact g9.tup x hx
                · rw [List.mem_singleton.mp hx]; exact tp
              · rcases List.mem_append.mp hx with hx | hx
                · exact g9.num x hx
                · rw [List.mem_singleton.mp hx]; exact g9.num m hm
              · rcases List.mem_append.mp hx with hx | hx
                · exact ok.nm x hx
                · rw [List.mem_singleton.mp hx]; exact ok.nm m hm
              · rcases List.mem_append.mp hx with hx | hx
                · rw [ok.len x hx]; omega
                · rw [List.mem_singleton.mp hx]
                  show 1 ≤ m.2.2.2.length ∧ m.2.2.2.length ≤ 3
                  rw [ok.len m hm]; omega
              · rcases List.mem_append.mp hx with hx | hx
                · exact ok.far x hx
                · rw [List.mem_singleton.mp hx]; exact ok.far m hm
              · have nd := z.1
                rw [show nmsOf (L ++ [(p, m.2.1, m.2.2.1, m.2.2.2)]) = nmsOf L ++ [m.2.1] by rw [nmsOf, List.map_append]; rfl, List.nodup_append] at nd
                exact nd.2.2 m.2.1 (List.mem_map.mpr ⟨m, hm, rfl⟩) m.2.1 (by simp) rfl
          walk_at "zz"
          rcases id od with ⟨hd, dd, gd, ly⟩ | ⟨m, hm, p, rfl, hp⟩
          · refine ⟨dd, _, Dp.kp hole_up gd, dpl, sh_of ly (by decide), shl, ?_⟩
            cases (L.map handD).any fun z => PyData.eqv z dd with
            | true =>
              walk_at "zz"
              refine z_new (by simp) (fun l4 H4 n4 e4 h4 => ?_)
              refine z_cat (e4 _ _ h3.lst) h4 (by rw [ll]; simp only [List.length_cons, List.length_nil]; omega) (fun l5 H5 n5 e5 h5 => ?_)
              exact app l5 H5 (e4.trans e5) (src_new (s3.same e4) n5) h5
            | false =>
              walk_at "zz"
              refine z_slL (SqL.of h3.lst) (fun l4 H4 n4 e4 h4 => ?_)
              rw [cut_tk] at h4
              walk_at "zz"
              refine z_new (by simp) (fun l5 H5 n5 e5 h5 => ?_)
              refine z_cat (e5 _ _ h4) h5 (by rw [List.length_map, List.length_take]; simp only [List.length_cons, List.length_nil]; omega) (fun l6 H6 n6 e6 h6 => ?_)
              have e36 := e4.trans (e5.trans e6)
              walk_at "zz"
              refine z_slL (SqL.of (e36 _ _ h3.lst)) (fun l7 H7 n7 e7 h7 => ?_)
              rw [show ((at_ : Int) + 1) = ((at_ + 1 : Nat) : Int) from rfl, cut_frm] at h7
              refine z_cat (e7 _ _ h6) h7 (by rw [List.length_append, List.length_map, List.length_map, List.length_take, List.length_drop]; simp only [List.length_cons, List.length_nil]; omega) (fun l8 H8 n8 e8 h8 => ?_)
              have e38 := e36.trans (e7.trans e8)
              have k8 : Kp (hole s H3) (hole s H8) := hole_dr (Dr.of_same s3 e38)
              have g8 := g3.kp k8
              exact q (.ref l8) H8 (hands_bad (A := L.take at_) (B := L.drop (at_ + 1)) (hole_get (src_new (s3.same (e36.trans e7)) n8) h8) (hd.kp k8) (fun m hm => hdt g8.tup g8.num m (take_drop_mem hm))) (D3.trans (Dr.of_same s3 e38))
          · refine ⟨handD m, _, dpm m hm p (hole_of hp).2, dpl, sh_of (lay m hm) (by decide), shl, ?_⟩
            have any : ((L.map handD).any fun z => PyData.eqv z (handD m)) = true := List.any_eq_true.mpr ⟨handD m, List.mem_map.mpr ⟨m, hm, rfl⟩, SeqAt.eqv_refl _ (lay m hm).1⟩
            rw [any]
            walk_at "zz"
            refine z_new (by simp) (fun l4 H4 n4 e4 h4 => ?_)
            refine z_cat (e4 _ _ h3.lst) h4 (by rw [ll]; simp only [List.length_cons, List.length_nil]; omega) (fun l5 H5 n5 e5 h5 => ?_)
            exact app l5 H5 (e4.trans e5) (src_new (s3.same e4) n5) h5
theorem z_notInS {H : Hp} {Q : VK} {p : Addr} {zs : List Str} {z : Str} (h : H p = some (.lst (zs.map V.str))) (q : Q (.bl (!decide (z ∈ zs))) H) : rIn K true (.str z) (.ref p) H Q :=
  ⟨p, _, rfl, .inl (SqL.of h), rfl, by rw [List.all_eq_true]; intro x hx; obtain ⟨y, _, rfl⟩ := List.mem_map.mp hx; rfl, by
    rw [show (if true = true then !inV (V.str z) (zs.map V.str) else inV (V.str z) (zs.map V.str)) = !decide (z ∈ zs) by rw [if_pos rfl, inV_str]]
    exact q⟩
theorem eqv_lnil (ds : List PyData) : PyData.eqv (.list ds) (.list []) = decide (ds = []) := by
  cases ds with
  | nil => decide
  | cons d ds =>
    rw [decide_eq_false (by simp)]
    rfl
theorem tie_lay {m : TieR} (n : nmB m.2.1 = true ∧ nmB m.2.2 = true ∧ m.2.1 ≠ m.2.2) : Lay (tieD m) 1 := lay_tup (n := 0) fun d hd => by
  simp only [List.mem_cons, List.not_mem_nil, or_false] at hd
  rcases hd with rfl | rfl
  · exact lay_name n.1
  · exact lay_name n.2.1
/-- things that are refused as ties between hands of these names -/
def TiesX (G : Hp) (zs : List Str) (v : V) : Prop := TiesBad G v ∨ ∃ t T, v = .ref t ∧ Ties G t T ∧ TiesV T ∧ ¬ TiesT zs T
theorem TiesX.kp {H H' : Hp} {zs : List Str} {v : V} (h : TiesX H zs v) (k : Kp H H') : TiesX H' zs v := by
  rcases h with h | ⟨a, T, e, hh, v, n⟩
  · exact .inl (h.kp k)
  · exact .inr ⟨a, T, e, hh.kp k, v, n⟩
/-- a thing that among right ties makes them wrong -/
def OddT (G : Hp) (zs : List Str) (T : List TieR) (v : V) : Prop := TiV G v false ∨ ∃ p x y, v = .ref p ∧ G p = some (.tup [.str x, .str y]) ∧ nmB x = true ∧ nmB y = true ∧ x ≠ y ∧ ((x ∉ zs ∨ y ∉ zs) ∨ tk2 x y ∈ tks T)
theorem OddT.kp {G G' : Hp} {zs : List Str} {T : List TieR} {v : V} (h : OddT G zs T v) (k : Kp G G') : OddT G' zs T v := by
  rcases h with h | ⟨p, x, y, e, h, r⟩
  · exact .inl (h.kp k)
  · exact .inr ⟨p, x, y, e, k.tup h, r⟩
theorem ties_dr {s t : Addr} {H H' : Hp} {T : List TieR} (n : t ≠ s) (a : Ties H t T) (d : Dr s H H') : Ties H' t T := ⟨d.keep _ _ n a.lst, fun m hm => d.keep _ _ (src_tup d.src0 (a.tup m hm)) (a.tup m hm)⟩
theorem ties_hole {s t : Addr} {H : Hp} {T : List TieR} (r : Src H s) (n : t ≠ s) (a : Ties H t T) : Ties (hole s H) t T := ⟨hole_get n a.lst, fun m hm => hole_get (src_tup r (a.tup m hm)) (a.tup m hm)⟩
theorem ties_bad {G : Hp} {l : Addr} {A B : List TieR} {v : V} (h : G l = some (.lst (A.map (fun m => V.ref m.1) ++ [v] ++ B.map fun m => V.ref m.1))) (hv : TiV G v false) (ha : ∀ m, m ∈ A ∨ m ∈ B → TiV G (.ref m.1) true) : TiesBad G (.ref l) := by
  refine .inr ⟨l, _, rfl, h, A.map (fun _ => true) ++ [false] ++ B.map (fun _ => true), by simp, fun i x k hx hk => ?_, by rw [List.all_append, List.all_append]; simp⟩
  rcases Nat.lt_or_ge i A.length with h1 | h1
  · rw [List.append_assoc, List.getElem?_append_left (by rw [List.length_map]; exact h1), List.getElem?_map, List.getElem?_eq_getElem h1] at hx hk
    cases hx
    cases hk
    exact ha _ (.inl (List.getElem_mem h1))
  · rw [List.append_assoc, List.getElem?_append_right (by rw [List.length_map]; exact h1), List.length_map] at hx hk
    cases e : i - A.length with
    | zero =>
      rw [e] at hx hk
      cases hx
      cases hk
      exact hv
    | succ j =>
      rw [e] at hx hk
      have hx' : (B.map fun m => V.ref m.1)[j]? = some x := hx
      have hk' : (B.map fun _ => true)[j]? = some k := hk
      rw [List.getElem?_map] at hx' hk'
      obtain ⟨m, hm, rfl⟩ := Option.map_eq_some_iff.mp hx'
      rw [hm] at hk'
      cases hk'
      exact ha m (.inr (List.mem_of_getElem? hm))
theorem tk2_comm {x y : Str} (ne : x ≠ y) : tk2 x y = tk2 y x := by
  unfold tk2 lowS topS2
  have as : sLt x y = true → sLt y x = true → False := fun a b => lex_asym _ _ (of_decide_eq_true a) (of_decide_eq_true b)
  have tot : sLt x y = true ∨ sLt y x = true := by
    rcases lex_tri x.cps.toList y.cps.toList with h | h | h
    · exact .inl (decide_eq_true h)
    · exact absurd (str_ext h) ne
    · exact .inr (decide_eq_true h)
  rcases tot with h | h
  · have n : ¬ sLt y x = true := fun b => as h b
    rw [if_neg n, if_pos h, if_pos h, if_neg n]
  · have n : ¬ sLt x y = true := fun b => as b h
    rw [if_pos h, if_neg n, if_neg n, if_pos h]
theorem ti_len {G : Hp} {p : Addr} {xs : List V} (h : G p = some (.tup xs)) (n : xs.length ≠ 2) : TiV G (.ref p) false := .inr ⟨p, xs, rfl, h, .inl ⟨n, rfl⟩⟩
theorem ti_nm {G : Hp} {p : Addr} {x y : V} {k1 k2 : Bool} (h : G p = some (.tup [x, y])) (a : NmV G x k1) (b : NmV G y k2) (k : (k1 && k2) = false) : TiV G (.ref p) false := .inr ⟨p, _, rfl, h, .inr ⟨x, y, rfl, k1, k2, a, b, .inl ⟨k, rfl⟩⟩⟩
theorem odd_in {G : Hp} {l : Addr} {zs : List Str} {T : List TieR} {v : V} {k : Nat} (ok : TiesOk zs T) (ht : ∀ m ∈ T, G m.1 = some (.tup [.str m.2.1, .str m.2.2])) (h : G l = some (.lst ((T.take k).map (fun m => V.ref m.1) ++ [v] ++ (T.drop k).map fun m => V.ref m.1))) (o : OddT G zs T v) : TiesX G zs (.ref l) := by
  have few := ok.few
  rcases o with o | ⟨p, x, y, rfl, hp, nx, ny, ne, why⟩
  · exact .inl (ties_bad h o fun m hm => ti_true (ht m (take_drop_mem hm)) (ok.nm m (take_drop_mem hm)))
  · have mem' : ∀ m ∈ T.take k ++ [((p, x, y) : TieR)] ++ T.drop k, m ∈ T ∨ m = (p, x, y) := fun m hm => by
      rcases List.mem_append.mp hm with hm | hm
      · rcases List.mem_append.mp hm with hm | hm
        · exact .inl (List.mem_of_mem_take hm)
        · exact .inr (List.mem_singleton.mp hm)
      · exact .inl (List.mem_of_mem_drop hm)
    refine .inr ⟨l, T.take k ++ [(p, x, y)] ++ T.drop k, rfl, ⟨by rw [h, List.map_append, List.map_append]; rfl, fun m hm => ?_⟩, ⟨?_, fun m hm => ?_⟩, fun z => ?_⟩
    · rcases mem' m hm with hm | rfl
      · exact ht m hm
      · exact hp
    · rw [List.length_append, List.length_append, List.length_take, List.length_drop]
      simp only [List.length_cons, List.length_nil]
      omega
    · rcases mem' m hm with hm | rfl
      · exact ok.nm m hm
      · exact ⟨nx, ny, ne⟩
    · rcases why with why | why
      · have := z.1 (p, x, y) (List.mem_append_left _ (List.mem_append_right _ (by simp)))
        exact why.elim (fun n => n this.1) (fun n => n this.2)
      · have nd := z.2
        rw [show tks (T.take k ++ [(p, x, y)] ++ T.drop k) = tks (T.take k) ++ [tk2 x y] ++ tks (T.drop k) by rw [tks, List.map_append, List.map_append]; rfl] at nd
        obtain ⟨m, hm, em⟩ := List.mem_map.mp why
        rw [List.nodup_append] at nd
        obtain ⟨nd1, _, nd2⟩ := nd
        rw [List.nodup_append] at nd1
        rcases List.mem_append.mp (show m ∈ T.take k ++ T.drop k by rw [List.take_append_drop]; exact hm) with h | h
        · exact nd1.2.2 (tk2 x y) (List.mem_map.mpr ⟨m, h, em⟩) (tk2 x y) (by simp) rfl
        · exact nd2 (tk2 x y) (by simp) (tk2 x y) (List.mem_map.mpr ⟨m, h, em⟩) rfl
def spOddTies : Sp := fun vs H Q _ => ∃ (s h t : Addr) (L : List HandR) (T : List TieR) (n : Nat), vs = [.ref s, .ref h, .ref t] ∧ Src H s ∧ h ≠ s ∧ t ≠ s ∧ Hands H h L ∧ HandsOk L n ∧ Ties H t T ∧ TiesOk (nmsOf L) T ∧ ¬ (("strange" : Str) ∈ nmsOf L ∧ ("unheard" : Str) ∈ nmsOf L) ∧ ∀ (v : V) (H' : Hp), TiesX (hole s H') (nmsOf L) v → Dr s H H' → Q v H'
theorem ok__law_odd_ties {f : Addr} {fd : FuncData} (F : FnP K "_law_odd_ties" s__law_odd_ties f fd) (m_len : mg "len" = none) (m_list : mg "list" = none) (m_tuple : mg "tuple" = none) (h__law_draw : Has P w K mg base 2 "_law_draw" ["_law_well_here", "_law_many"] spDraw) (h__law_pick : Has P w K mg base 3 "_law_pick" ["_law_well_here", "_law_some"] spPick) : FnOk P w K mg base CX0 4 f fd ["_law_well_here", "_law_hands", "_law_ties_here"] spOddTies := by
  refine F.ok sc__law_odd_ties (fun vs H Q E h => ?_) (fun cdv A outer s0 H vs Q E hr h => ?_)
  · obtain ⟨s, h, t, L, T, n, rfl, _⟩ := h; rfl
  obtain ⟨s, h, t, L, T, n, rfl, hs, hns, tns, hh, ok, ht, okT, apart, q⟩ := h
  have ll : (L.map fun m => V.ref m.1).length = L.length := List.length_map ..
  have lt : (T.map fun m => V.ref m.1).length = T.length := List.length_map ..
  have o1 := ok.one
  have o8 := ok.few
  have few := okT.few
  refine ⟨_, PSs.nox (pss_cons (ps_set (i := 3) sc__law_odd_ties.nd rfl (.inr rfl) (pe_lc (own := [("_law_hand", 11)]) (g := (gName 11)) (by rfl) sc__law_odd_ties.nd (pi_listE K (pv 1)) (blkOk_by (own := [("_law_hand", 11)]) (N := ["_law_well_here", "_law_hands", "_law_ties_here", "_law_names_here", "_law_name", "_law_other", "_law_at", "_law_strange", "_law_some", "_law_tie", "_law_bad_here", "_law_hand", "_law_one"]) (sc := defScope s__law_odd_ties) (by decide +kernel)) (fun _ _ _ _ _ => (pg_name (i := 11) sc__law_odd_ties.nd rfl (.inl rfl))) (fun _ _ _ _ _ => pts_nil) (fun _ _ _ _ _ => (pe_ix (ix_tupE K) (pv 11) pe_int (fun _ _ => rfl)))))
  (pss_cons (ps_set (i := 4) sc__law_odd_ties.nd rfl (.inl rfl) (pe_callH h__law_pick (hr.mono (by decide)) (by rfl) (pa_cons (pv 0) (pa_cons (pv 3) pa_nil))))
  (pss_cons (ps_set (i := 5) sc__law_odd_ties.nd rfl (.inl rfl) (pe_callH h__law_pick (hr.mono (by decide)) (by rfl) (pa_cons (pv 0) (pa_cons (pv 3) pa_nil))))
  (pss_cons (ps_set (i := 6) sc__law_odd_ties.nd rfl (.inl rfl) (pe_callH h__law_draw (hr.mono (by decide)) (by rfl) (pa_cons (pv 0) (pa_cons (pe_op op_add (pe_callB (call_lenE K) (by rfl) m_len (by decide +kernel) (pa_cons (pv 2) pa_nil)) pe_int) pa_nil))))
  (pss_cons (ps_set (i := 7) sc__law_odd_ties.nd rfl (.inl rfl) (pe_ix (ix_listE K) (pe_lc (own := [("_law_one", 12)]) (g := (gName 12)) (by rfl) sc__law_odd_ties.nd (pi_listE K (pe_lst (pa_cons pe_str (pa_cons pe_str pa_nil)))) (blkOk_by (own := [("_law_one", 12)]) (N := ["_law_well_here", "_law_hands", "_law_ties_here", "_law_names_here", "_law_name", "_law_other", "_law_at", "_law_strange", "_law_some", "_law_tie", "_law_bad_here", "_law_hand", "_law_one"]) (sc := defScope s__law_odd_ties) (by decide +kernel)) (fun _ _ _ _ _ => (pg_name (i := 12) sc__law_odd_ties.nd rfl (.inl rfl))) (fun _ _ _ _ _ => (pts_one (pt_cmpR (op_notInE K) (pv 12) (pv 3) (by rfl)))) (fun _ _ _ _ _ => (pv 12))) pe_int (fun _ _ => rfl)))
  (pss_cons (ps_set (i := 8) sc__law_odd_ties.nd rfl (.inl rfl) (pe_lst (pa_cons (pe_tup (pa_cons (pv 4) (pa_cons (pv 7) pa_nil))) (pa_cons (pe_tup (pa_cons (pv 7) (pa_cons (pv 4) pa_nil))) (pa_cons (pe_tup (pa_cons (pv 4) (pa_cons (pv 4) pa_nil))) (pa_cons (pe_tup (pa_cons (pv 4) pa_nil)) (pa_cons (pe_tup (pa_cons (pv 4) (pa_cons (pv 5) (pa_cons (pv 4) pa_nil)))) (pa_cons (pe_lst (pa_cons (pv 4) (pa_cons (pv 5) pa_nil))) pa_nil))))))))
  (pss_cons (ps_set (i := 8) sc__law_odd_ties.nd rfl (.inl rfl) (pe_op op_cat (pv 8) (pe_lst (pa_cons (pv 4) pa_nil))))
  (pss_cons (ps_set (i := 8) sc__law_odd_ties.nd rfl (.inl rfl) (pe_op op_cat (pv 8) (pe_lst (pa_cons pe_non (pa_cons (pe_tup (pa_cons (pv 4) (pa_cons pe_non pa_nil))) (pa_cons (pe_tup (pa_cons pe_int (pa_cons (pv 4) pa_nil))) (pa_cons (pe_tup (pa_cons (pv 4) (pa_cons (pe_lst (pa_cons (pv 5) pa_nil)) pa_nil))) (pa_cons (pe_tup pa_nil) (pa_cons (pe_tup (pa_cons (pv 4) (pa_cons pe_str pa_nil))) (pa_cons (pe_tup (pa_cons (pe_tup (pa_cons (pv 4) (pa_cons (pv 5) pa_nil))) pa_nil)) pa_nil))))))))))
  (pss_cons (ps_if (pt_cmpR (op_neDE K hr.units) (pv 2) (pe_lst pa_nil) (nomark _))
    (pss_cons (ps_set (i := 9) sc__law_odd_ties.nd rfl (.inl rfl) (pe_callH h__law_pick (hr.mono (by decide)) (by rfl) (pa_cons (pv 0) (pa_cons (pv 2) pa_nil))))
  (pss_one (ps_set (i := 8) sc__law_odd_ties.nd rfl (.inl rfl) (pe_op op_cat (pv 8) (pe_lst (pa_cons (pv 9) (pa_cons (pe_rev2E K (pv 9)) (pa_cons (pv 9) (pa_cons (pe_rev2E K (pv 9)) (pa_cons (pe_callTy (call_listE K) (by rfl) m_list (by decide +kernel) (pa_cons (pv 9) pa_nil)) pa_nil))))))))))
    pss_nil)
  (pss_cons (ps_set (i := 10) sc__law_odd_ties.nd rfl (.inl rfl) (pe_op op_cat (pe_op op_cat (pe_slice (sl_listE K) (pv 2) po_none (po_some (pv 6))) (pe_lst (pa_cons (pe_callH h__law_pick (hr.mono (by decide)) (by rfl) (pa_cons (pv 0) (pa_cons (pv 8) pa_nil))) pa_nil))) (pe_slice (sl_listE K) (pv 2) (po_some (pv 6)) po_none)))
  (pss_cons (ps_if (pt_cmpR op_eq (pe_callH h__law_draw (hr.mono (by decide)) (by rfl) (pa_cons (pv 0) (pa_cons pe_int pa_nil))) pe_int (nomark _))
    (pss_one (ps_set (i := 10) sc__law_odd_ties.nd rfl (.inl rfl) (pe_callH h__law_pick (hr.mono (by decide)) (by rfl) (pa_cons (pv 0) (pa_cons (pe_lst (pa_cons (pe_callTy (call_tupleE K) (by rfl) m_tuple (by decide +kernel) (pa_cons (pv 2) pa_nil)) (pa_cons pe_non (pa_cons pe_dnewK (pa_cons pe_str (pa_cons pe_int (pa_cons (pe_tup (pa_cons (pv 4) (pa_cons (pv 5) pa_nil))) pa_nil))))))) pa_nil)))))
    pss_nil)
  (pss_one (ps_ret (pv 10)))))))))))))), ?_⟩
  walk_at "zz"
  show iList K _ _ _ _
  walk_at "zz"
  refine ⟨h, rfl, ⟨_, SqL.of hh.lst⟩, fun E1 nE1 => lc_list (xs := L.map fun m => V.ref m.1) (fun i H' => Same H H' ∧ H' E1 = some (.lst (((nmsOf L).take i).map V.str))) ⟨same_upd nE1, upd_same⟩ (fun i H' _ hp => SqL.of (hp.1 _ _ hh.lst)) ?_ ?_⟩
  · rintro i x H1 hx ⟨e1, hD⟩
    obtain ⟨m, hm, mem, rfl⟩ := hands_at hx
    have zi : (nmsOf L)[i]? = some m.2.1 := by rw [List.getElem?_map, hm]; rfl
    refine ⟨rfl, ?_⟩
    walk_at "zz"
    refine z_ixT (SqT.of (e1 _ _ (hh.tup m mem))) rfl ?_
    refine ⟨_, hD, small1000 (by rw [List.length_map, List.length_take, List.length_map]; omega), fun b o hb => by rw [upd_ne (ne_of_none hb nE1)]; exact e1 _ _ hb, ?_⟩
    rw [upd_same, List.take_add_one, zi, List.map_append]
    rfl
  rintro H1 ⟨e1, hD⟩
  have et : (nmsOf L).take (L.map fun m => V.ref m.1).length = nmsOf L := List.take_of_length_le (by rw [List.length_map, List.length_map]; exact Nat.le_refl _)
  rw [et] at hD
  have ln : (nmsOf L).length = L.length := List.length_map ..
  have nE : E1 ≠ s := src_new hs nE1
  have s1 := hs.same e1
  walk_at "zz"
  refine ⟨s, E1, _, rfl, s1, nE, hD, by rw [List.length_map]; omega, by rw [List.length_map]; omega, fun i v H2 hv d2 => ?_⟩
  rw [List.getElem?_map] at hv
  obtain ⟨na, hna, rfl⟩ := Option.map_eq_some_iff.mp hv
  have nam := List.mem_of_getElem? hna
  walk_at "zz"
  refine ⟨s, E1, _, rfl, d2.src, nE, d2.keep _ _ nE hD, by rw [List.length_map]; omega, by rw [List.length_map]; omega, fun i v H3 hv d3 => ?_⟩
  rw [List.getElem?_map] at hv
  obtain ⟨ot, hot, rfl⟩ := Option.map_eq_some_iff.mp hv
  have otm := List.mem_of_getElem? hot
  have nmz : ∀ z ∈ nmsOf L, nmB z = true := fun z hz => by
    obtain ⟨m, hm, rfl⟩ := List.mem_map.mp hz
    exact ok.nm m hm
  have D3 : Dr s H H3 := (Dr.of_same hs e1).trans (d2.trans d3)
  have t3 := ties_dr tns ht D3
  walk_at "zz"
  refine z_lenL (SqL.of t3.lst) ?_
  walk_at "zz"
  rw [lt]
  refine ⟨s, _, rfl, by omega, Nat.lt_of_le_of_lt (m := 1000) (by omega) (by decide +kernel), D3.src, fun ra H4 a0 a1 d4 => ?_⟩
  obtain ⟨at_, rfl⟩ : ∃ j : Nat, ra = (j : Int) := ⟨ra.toNat, by omega⟩
  have D4 := D3.trans d4
  have s4 := d4.src
  have t4 := ties_dr tns ht D4
  have D1 : Dr s H1 H4 := d2.trans (d3.trans d4)
  have hD4 := D1.keep _ _ nE hD
  walk_at "zz"
  show iList K _ _ _ _
  walk_at "zz"
  refine z_new (by simp) (fun l5 H5 n5 e5 h5 => ?_)
  have h5' : H5 l5 = some (.lst ((["strange", "unheard"] : List Str).map V.str)) := h5
  have s5 := s4.same e5
  refine ⟨l5, rfl, ⟨_, SqL.of h5⟩, fun E2 nE2 => lc_list (xs := (["strange", "unheard"] : List Str).map V.str) (fun i H' => Same H5 H' ∧ H' E2 = some (.lst (((((["strange", "unheard"] : List Str).take i).filter fun z => !decide (z ∈ nmsOf L))).map V.str))) ⟨same_upd nE2, upd_same⟩ (fun i H' _ hp => SqL.of (hp.1 _ _ h5')) ?_ ?_⟩
  · rintro i x H6 hx ⟨e6, h6⟩
    rw [List.getElem?_map] at hx
    obtain ⟨z, hz, rfl⟩ := Option.map_eq_some_iff.mp hx
    have i2 : i < 2 := (List.getElem?_eq_some_iff.mp hz).1
    have bd : (((["strange", "unheard"] : List Str).take i).filter fun z => !decide (z ∈ nmsOf L)).length ≤ 2 := Nat.le_trans (List.length_filter_le ..) (by rw [List.length_take]; omega)
    refine ⟨rfl, ?_⟩
    walk_at "zz"
    refine z_notInS (e6 _ _ (e5 _ _ hD4)) ?_
    walk_at "zz"
    refine z_nite (fun hn => ?_) (fun hn => ?_)
    · walk_at "zz"
      refine ⟨_, h6, small1000 (by rw [List.length_map]; omega), fun b o hb => by rw [upd_ne (ne_of_none hb nE2)]; exact e6 _ _ hb, ?_⟩
      rw [upd_same, List.take_add_one, hz, List.filter_append, List.map_append]
      show _ = some (HO.lst (_ ++ (([z].filter fun z => !decide (z ∈ nmsOf L)).map V.str)))
      rw [List.filter_cons, decide_eq_false hn]
      rfl
    · refine ⟨e6, ?_⟩
      rw [h6, List.take_add_one, hz, List.filter_append, List.map_append]
      show _ = some (HO.lst (_ ++ (([z].filter fun z => !decide (z ∈ nmsOf L)).map V.str)))
      rw [List.filter_cons, decide_eq_true hn]
      simp
  rintro H6 ⟨e6, h6⟩
  rw [List.take_of_length_le (by simp)] at h6
  obtain ⟨sz, ws, hws, szn, szm⟩ : ∃ sz ws, ((["strange", "unheard"] : List Str).filter fun z => !decide (z ∈ nmsOf L)) = sz :: ws ∧ sz ∉ nmsOf L ∧ nmB sz = true := by
    by_cases c1 : ("strange" : Str) ∈ nmsOf L
    · have c2 : ("unheard" : Str) ∉ nmsOf L := fun z => apart ⟨c1, z⟩
      refine ⟨"unheard", [], ?_, c2, by decide +kernel⟩
      rw [List.filter_cons, decide_eq_true c1]
      rw [if_neg (by decide), List.filter_cons, decide_eq_false c2]
      rfl
    · refine ⟨"strange", _, by rw [List.filter_cons, decide_eq_false c1]; rfl, c1, by decide +kernel⟩
  rw [hws] at h6
  have e46 := e5.trans e6
  have s6 := s4.same e46
  walk_at "zz"
  refine z_ixL (SqL.of h6) (at_of (j := 0) rfl rfl) ?_
  walk_at "zz"
  refine z_new (by simp) (fun p1 I1 m1 f1 g1 => ?_)
  walk_at "zz"
  refine z_new (by simp) (fun p2 I2 m2 f2 g2 => ?_)
  walk_at "zz"
  refine z_new (by simp) (fun p3 I3 m3 f3 g3 => ?_)
  walk_at "zz"
  refine z_new (by simp) (fun p4 I4 m4 f4 g4 => ?_)
  walk_at "zz"
  refine z_new (by simp) (fun p5 I5 m5 f5 g5 => ?_)
  walk_at "zz"
  refine z_new (by simp) (fun p6 I6 m6 f6 g6 => ?_)
  walk_at "zz"
  refine z_new (by simp) (fun l7 I7 m7 f7 g7 => ?_)
  have q7 : Same H6 I7 := f1.trans (f2.trans (f3.trans (f4.trans (f5.trans (f6.trans f7)))))
  walk_at "zz"
  refine z_new (by simp) (fun l8 I8 m8 f8 g8 => ?_)
  refine z_cat (f8 _ _ g7) g8 (by simp) (fun l9 I9 m9 f9 g9 => ?_)
  walk_at "zz"
  refine z_new (by simp) (fun p10 I10 m10 f10 g10 => ?_)
  walk_at "zz"
  refine z_new (by simp) (fun p11 I11 m11 f11 g11 => ?_)
  walk_at "zz"
  refine z_new (by simp) (fun l12 I12 m12 f12 g12 => ?_)
  walk_at "zz"
  refine z_new (by simp) (fun p13 I13 m13 f13 g13 => ?_)
  walk_at "zz"
  refine z_new (by simp) (fun p14 I14 m14 f14 g14 => ?_)
  walk_at "zz"
  refine z_new (by simp) (fun p15 I15 m15 f15 g15 => ?_)
  walk_at "zz"
  refine z_new (by simp) (fun p16 I16 m16 f16 g16 => ?_)
  walk_at "zz"
  refine z_new (by simp) (fun p17 I17 m17 f17 g17 => ?_)
  walk_at "zz"
  refine z_new (by simp) (fun l18 I18 m18 f18 g18 => ?_)
  have q18 : Same I9 I18 := f10.trans (f11.trans (f12.trans (f13.trans (f14.trans (f15.trans (f16.trans (f17.trans f18)))))))
  refine z_cat (q18 _ _ g9) g18 (by simp) (fun l19 I19 m19 f19 g19 => ?_)
  have q9 : Same I7 I9 := f8.trans f9
  have q6 : Same H6 I19 := q7.trans (q9.trans (q18.trans f19))
  have z18 := f19
  have z17 := f18.trans z18
  have z16 := f17.trans z17
  have z15 := f16.trans z16
  have z14 := f15.trans z15
  have z13 := f14.trans z14
  have z12 := f13.trans z13
  have z11 := f12.trans z12
  have z10 := f11.trans z11
  have z9 := q18.trans f19
  have z7 := q9.trans z9
  have z6 := f7.trans z7
  have z5 := f6.trans z6
  have z4 := f5.trans z5
  have z3 := f4.trans z4
  have z2 := f3.trans z3
  have z1 := f2.trans z2
  have s19 := s6.same q6
  have D19 : Dr s H I19 := D4.trans (Dr.of_same s4 (e46.trans q6))
  have t19 := ties_dr tns ht D19
  have tup : ∀ {p : Addr} {xs : List V}, I19 p = some (.tup xs) → hole s I19 p = some (.tup xs) := fun h => hole_get (src_tup s19 h) h
  have nn := nmz na nam
  have no_ := nmz ot otm
  have ne1 : na ≠ sz := fun e => szn (e ▸ nam)
  have NA : NmV (hole s I19) (.str na) true := .of_nm nn
  have gl6 : hole s I19 p6 = some (.lst [.str na, .str ot]) := hole_get (src_new (s6.same (f1.trans (f2.trans (f3.trans (f4.trans f5))))) m6) (z6 _ _ g6)
  have gl12 : hole s I19 l12 = some (.lst [.str ot]) := hole_get (src_new (s6.same (q7.trans (q9.trans (f10.trans f11)))) m12) (z12 _ _ g12)
  have l19s : l19 ≠ s := src_new (s6.same (q7.trans (q9.trans q18))) m19
  have all0 : ∀ x ∈ [V.ref p1, .ref p2, .ref p3, .ref p4, .ref p5, .ref p6] ++ [V.str na] ++ [V.non, .ref p10, .ref p11, .ref p13, .ref p14, .ref p15, .ref p17], OddT (hole s I19) (nmsOf L) T x := fun x mm => by
    simp only [List.mem_append, List.mem_cons, List.not_mem_nil, or_false] at mm
    rcases mm with ((rfl | rfl | rfl | rfl | rfl | rfl) | rfl) | (rfl | rfl | rfl | rfl | rfl | rfl | rfl)
    · exact .inr ⟨p1, na, sz, rfl, tup (z1 _ _ g1), nn, szm, ne1, .inl (.inr szn)⟩
    · exact .inr ⟨p2, sz, na, rfl, tup (z2 _ _ g2), szm, nn, ne1.symm, .inl (.inl szn)⟩
    · exact .inl (.inr ⟨p3, _, rfl, tup (z3 _ _ g3), .inr ⟨_, _, rfl, true, true, NA, NA, .inr ⟨na, na, rfl, rfl, rfl, rfl, by simp⟩⟩⟩)
    · exact .inl (ti_len (tup (z4 _ _ g4)) (by simp))
    · exact .inl (ti_len (tup (z5 _ _ g5)) (by simp))
    · exact .inl (.inl ⟨_, .lst gl6, by decide, rfl⟩)
    · exact .inl (.inl ⟨_, .str _, by decide, rfl⟩)
    · exact .inl (.inl ⟨_, .non, by decide, rfl⟩)
    · exact .inl (ti_nm (k2 := false) (tup (z10 _ _ g10)) NA (.inl ⟨_, .non, by decide, rfl⟩) rfl)
    · exact .inl (ti_nm (k1 := false) (tup (z11 _ _ g11)) (.inl ⟨_, .int _, by decide, rfl⟩) NA rfl)
    · exact .inl (ti_nm (k2 := false) (tup (z13 _ _ g13)) NA (.inl ⟨_, .lst gl12, by decide, rfl⟩) rfl)
    · exact .inl (ti_len (tup (z14 _ _ g14)) (by simp))
    · exact .inl (ti_nm (k2 := false) (tup (z15 _ _ g15)) NA (.inr ⟨"", rfl, by decide, by decide +kernel⟩) rfl)
    · exact .inl (ti_len (tup (z17 _ _ g17)) (by simp))
  refine z_name ?_
  dsimp only
  with_reducible refine z_seq ?_
  with_reducible refine cutSt (t := tIfS _ _ _) (fun σ' H' => ∃ (ls : Addr) (xs : List V) (y9 y10 y11 y12 : Option V), σ' = [some (.ref s), some (.ref h), some (.ref t), some (.ref E1), some (.str na), some (.str ot), some (.int (at_ : Int)), some (.str sz), some (.ref ls), y9, y10, y11, y12] ∧ Dr s I19 H' ∧ ls ≠ s ∧ H' ls = some (.lst xs) ∧ 1 ≤ xs.length ∧ xs.length ≤ 100 ∧ ∀ x ∈ xs, OddT (hole s H') (nmsOf L) T x) (fun D' hD' _ _ _ => ?_) ?_
  · walk_at "zz"
    refine z_new (by simp) (fun l20 H20 n20 e20 h20 => ?_)
    refine z_neD (k := decide (T.map tieD = [])) (.lst (SqL.of (e20 _ _ t19.lst)) (dpAll_map fun m hm => .tup (SqT.of (e20 _ _ (t19.tup m hm))) (.cons (.str _) (.cons (.str _) .nil)))) (.lst (SqL.of h20) .nil) (sh_of (n := 2) (lay_lst (n := 1) fun d hd => by
      obtain ⟨m, hm, rfl⟩ := List.mem_map.mp hd
      exact tie_lay (okT.nm m hm)) (by decide)) (by decide) (eqv_lnil _) ?_
    have s20 := s19.same e20
    have D20 : Dr s I19 H20 := Dr.of_same s19 e20
    walk_at "zz"
    refine z_nite (fun hne => ?_) (fun hne => ?_)
    · have lT : 1 ≤ T.length := by
        cases T with
        | nil => exact absurd rfl hne
        | cons a b => simp
      walk_at "zz"
      refine ⟨s, t, _, rfl, s20, tns, e20 _ _ t19.lst, by omega, by omega, fun i v H21 hv d21 => ?_⟩
      obtain ⟨m, hm, mem, rfl⟩ := ties_at hv
      have D21 := D20.trans d21
      have t21 := ties_dr tns t19 D21
      have s21 := d21.src
      have l21 := D21.keep _ _ l19s g19
      walk_at "zz"
      refine z_rev2 ?_
      walk_at "zz"
      refine ⟨m.1, _, _, rfl, SqT.of (t21.tup m mem), fun r1 nr1 => ?_⟩
      have e22 : Same H21 (upd H21 r1 (.tup [.str m.2.2, .str m.2.1])) := same_upd nr1
      have h22 : upd H21 r1 (.tup [.str m.2.2, .str m.2.1]) r1 = some (.tup [.str m.2.2, .str m.2.1]) := upd_same
      generalize upd H21 r1 (.tup [.str m.2.2, .str m.2.1]) = H22 at e22 h22 ⊢
      walk_at "zz"
      refine z_rev2 ?_
      walk_at "zz"
      refine ⟨m.1, _, _, rfl, SqT.of (e22 _ _ (t21.tup m mem)), fun r2 nr2 => ?_⟩
      have e23 : Same H22 (upd H22 r2 (.tup [.str m.2.2, .str m.2.1])) := same_upd nr2
      have h23 : upd H22 r2 (.tup [.str m.2.2, .str m.2.1]) r2 = some (.tup [.str m.2.2, .str m.2.1]) := upd_same
      generalize upd H22 r2 (.tup [.str m.2.2, .str m.2.1]) = H23 at e23 h23 ⊢
      walk_at "zz"
      refine z_listT (e23 _ _ (e22 _ _ (t21.tup m mem))) (fun l24 H24 n24 e24 h24 => ?_)
      walk_at "zz"
      refine z_new (by simp) (fun l25 H25 n25 e25 h25 => ?_)
      have e21_25 := e22.trans (e23.trans (e24.trans e25))
      refine z_cat (e21_25 _ _ l21) h25 (by simp) (fun l26 H26 n26 e26 h26 => ?_)
      have e2126 := e21_25.trans e26
      have s26 := s21.same e2126
      have D26 := D21.trans (Dr.of_same s21 e2126)
      have t26 := ties_dr tns t19 D26
      have tup26 : ∀ {p : Addr} {xs : List V}, H26 p = some (.tup xs) → hole s H26 p = some (.tup xs) := fun h => hole_get (src_tup s26 h) h
      obtain ⟨n1, n2, n12⟩ := okT.nm m mem
      have key : tk2 m.2.1 m.2.2 ∈ tks T := List.mem_map.mpr ⟨m, mem, rfl⟩
      have oT : OddT (hole s H26) (nmsOf L) T (.ref m.1) := .inr ⟨m.1, m.2.1, m.2.2, rfl, tup26 (t26.tup m mem), n1, n2, n12, .inr key⟩
      have rT : ∀ r : Addr, H26 r = some (.tup [.str m.2.2, .str m.2.1]) → OddT (hole s H26) (nmsOf L) T (.ref r) := fun r hr => .inr ⟨r, m.2.2, m.2.1, rfl, tup26 hr, n2, n1, n12.symm, .inr (by rw [tk2_comm n12.symm]; exact key)⟩
      walk_at "zz"
      refine hD' _ _ ⟨l26, _, _, _, _, _, rfl, D26, src_new (s21.same e21_25) n26, h26, by simp, by simp, fun x hx => ?_⟩
      rcases List.mem_append.mp hx with hx | hx
      · exact (all0 x hx).kp (hole_dr D26)
      · simp only [List.mem_cons, List.not_mem_nil, or_false] at hx
        rcases hx with rfl | rfl | rfl | rfl | rfl
        · exact oT
        · exact rT r1 (e26 _ _ (e25 _ _ (e24 _ _ (e23 _ _ h22))))
        · exact oT
        · exact rT r2 (e26 _ _ (e25 _ _ (e24 _ _ h23)))
        · exact .inl (.inl ⟨_, .lst (hole_get (src_new (s21.same (e22.trans e23)) n24) (e26 _ _ (e25 _ _ h24))), by decide, rfl⟩)
    · walk_at "zz"
      exact hD' _ _ ⟨l19, _, _, _, _, _, rfl, D20, l19s, e20 _ _ g19, by simp, by simp, fun x hx => (all0 x hx).kp (hole_dr D20)⟩
  rintro σ' J0 ⟨ls, xs, y9, y10, y11, y12, rfl, DJ, lss, hls, x1, x100, all⟩
  have sJ := DJ.src
  have DJ0 := D19.trans DJ
  have tJ := ties_dr tns ht DJ0
  walk_at "zz"
  refine z_slL (SqL.of tJ.lst) (fun a1 J1 k1 c1 b1 => ?_)
  rw [cut_tk] at b1
  have sJ1 := sJ.same c1
  walk_at "zz"
  refine ⟨s, ls, _, rfl, sJ1, lss, c1 _ _ hls, x1, by omega, fun i v J2 hv dd2 => ?_⟩
  have DJ2 : Dr s J0 J2 := (Dr.of_same sJ c1).trans dd2
  have odd := (all v (List.mem_of_getElem? hv)).kp (hole_dr DJ2)
  have b2 := dd2.keep _ _ (src_new sJ k1) b1
  have sJ2 := dd2.src
  have tJ2 := ties_dr tns tJ DJ2
  walk_at "zz"
  refine z_new (by simp) (fun a3 J3 k3 c3 b3 => ?_)
  refine z_cat (c3 _ _ b2) b3 (by rw [List.length_map, List.length_take]; simp only [List.length_cons, List.length_nil]; omega) (fun a4 J4 k4 c4 b4 => ?_)
  walk_at "zz"
  refine z_slL (SqL.of (c4 _ _ (c3 _ _ tJ2.lst))) (fun a5 J5 k5 c5 b5 => ?_)
  rw [cut_frm] at b5
  refine z_cat (c5 _ _ b4) b5 (by rw [List.length_append, List.length_map, List.length_map, List.length_take, List.length_drop]; simp only [List.length_cons, List.length_nil]; omega) (fun a6 J6 k6 c6 b6 => ?_)
  have c26 : Same J2 J6 := c3.trans (c4.trans (c5.trans c6))
  have sJ6 := sJ2.same c26
  have D26 : Dr s J2 J6 := Dr.of_same sJ2 c26
  have D6 := DJ0.trans (DJ2.trans D26)
  have a6s : a6 ≠ s := src_new (sJ2.same (c3.trans (c4.trans c5))) k6
  have t6 := ties_hole sJ6 tns (ties_dr tns ht D6)
  have bad : TiesX (hole s J6) (nmsOf L) (.ref a6) := odd_in (k := at_) okT t6.tup (hole_get a6s b6) (odd.kp (hole_dr D26))
  walk_at "zz"
  refine ⟨s, _, rfl, by decide, by decide +kernel, sJ6, fun r7 J7 r70 r71 d7 => ?_⟩
  have D7 := D6.trans d7
  have sJ7 := d7.src
  have tJ7 := ties_dr tns ht D7
  walk_at "zz"
  refine z_ite (fun h7 => ?_) (fun h7 => ?_)
  · walk_at "zz"
    refine z_tupleL tJ7.lst (fun p8 J8 k8 c8 b8 => ?_)
    walk_at "zz"
    intro p9 k9
    have c9 : Same J8 (upd J8 p9 (.dK [])) := same_upd k9
    have b9 : upd J8 p9 (.dK []) p9 = some (.dK []) := upd_same
    generalize upd J8 p9 (.dK []) = J9 at c9 b9 ⊢
    walk_at "zz"
    refine z_new (by simp) (fun p10 J10 k10 c10 b10 => ?_)
    walk_at "zz"
    refine z_new (by simp) (fun a11 J11 k11 c11 b11 => ?_)
    have c7_11 := c8.trans (c9.trans (c10.trans c11))
    have s11 := sJ7.same c7_11
    refine ⟨s, a11, _, rfl, s11, src_new (sJ7.same (c8.trans (c9.trans c10))) k11, b11, by simp, by simp, fun i v J12 hv d12 => ?_⟩
    walk_at "zz"
    refine q v J12 (TiesX.kp (H := hole s J11) ?_ (hole_dr d12)) (D7.trans ((Dr.of_same sJ7 c7_11).trans d12))
    have mm := List.mem_of_getElem? hv
    clear hv
    simp only [List.mem_cons, List.not_mem_nil, or_false] at mm
    rcases mm with rfl | rfl | rfl | rfl | rfl | rfl
    · exact .inl (.inl ⟨_, .tup (hole_get (src_new sJ7 k8) (c11 _ _ (c10 _ _ (c9 _ _ b8)))), by decide⟩)
    · exact .inl (.inl ⟨_, .non, by decide⟩)
    · exact .inl (.inl ⟨_, .dct (hole_get (src_new (sJ7.same c8) k9) (c11 _ _ (c10 _ _ b9))), by decide⟩)
    · exact .inl (.inl ⟨_, .str _, by decide⟩)
    · exact .inl (.inl ⟨_, .int _, by decide⟩)
    · exact .inl (.inl ⟨_, .tup (hole_get (src_new (sJ7.same (c8.trans c9)) k10) (c11 _ _ b10)), by decide⟩)
  · walk_at "zz"
    exact q (.ref a6) J7 (bad.kp (hole_dr d7)) D7
theorem WebBad.kp {H H' : Hp} {v : V} (h : WebBad H v) (k : Kp H H') : WebBad H' v := by
  rcases h with ⟨n, ty, ne⟩ | ⟨p, xs, e, hp, r⟩
  · exact .inl ⟨n, ty.kp k, ne⟩
  · refine .inr ⟨p, xs, e, k.tup hp, ?_⟩
    rcases r with r | ⟨x, y, exy, r⟩
    · exact .inl r
    · refine .inr ⟨x, y, exy, ?_⟩
      rcases r with r | ⟨h, L, ex, hh, v, r⟩
      · exact .inl (r.kp k)
      · refine .inr ⟨h, L, ex, hh.kp k, v, ?_⟩
        rcases r with r | r | ⟨t, T, ey, ht, vt, r⟩
        · exact .inl r
        · exact .inr (.inl (r.kp k))
        · exact .inr (.inr ⟨t, T, ey, ht.kp k, vt, r⟩)
def spBad : Sp := fun vs H Q _ => ∃ (s h t : Addr) (L : List HandR) (T : List TieR) (n : Nat), vs = [.ref s, .ref h, .ref t] ∧ Src H s ∧ h ≠ s ∧ t ≠ s ∧ Hands H h L ∧ HandsOk L n ∧ Ties H t T ∧ TiesOk (nmsOf L) T ∧ ¬ (("strange" : Str) ∈ nmsOf L ∧ ("unheard" : Str) ∈ nmsOf L) ∧ ∀ (v : V) (H' : Hp), WebBad (hole s H') v → Dr s H H' → Q v H'
theorem ok__law_bad {f : Addr} {fd : FuncData} (F : FnP K "_law_bad" s__law_bad f fd) (m_list : mg "list" = none) (h__law_draw : Has P w K mg base 2 "_law_draw" ["_law_well_here", "_law_many"] spDraw) (h__law_pick : Has P w K mg base 3 "_law_pick" ["_law_well_here", "_law_some"] spPick) (h__law_odd_hands : Has P w K mg base 5 "_law_odd_hands" ["_law_well_here", "_law_hands"] spOddHands) (h__law_odd_ties : Has P w K mg base 4 "_law_odd_ties" ["_law_well_here", "_law_hands", "_law_ties_here"] spOddTies) : FnOk P w K mg base CX0 6 f fd ["_law_well_here", "_law_hands", "_law_ties_here"] spBad := by
  refine F.ok sc__law_bad (fun vs H Q E h => ?_) (fun cdv A outer s0 H vs Q E hr h => ?_)
  · obtain ⟨s, h, t, L, T, n, rfl, _⟩ := h; rfl
  obtain ⟨s, h, t, L, T, n, rfl, hs, hns, tns, hh, ok, ht, okT, apart, q⟩ := h
  refine ⟨_, PSs.nox (pss_cons (ps_set (i := 3) sc__law_bad.nd rfl (.inl rfl) (pe_callH h__law_draw (hr.mono (by decide)) (by rfl) (pa_cons (pv 0) (pa_cons pe_int pa_nil))))
  (pss_cons (ps_if (pt_cmpR op_eq (pv 3) pe_int (nomark _))
    (pss_cons (ps_set (i := 4) sc__law_bad.nd rfl (.inl rfl) (pe_lst (pa_cons pe_non (pa_cons (pe_lst (pa_cons (pv 1) (pa_cons (pv 2) pa_nil))) (pa_cons (pe_tup (pa_cons (pv 1) pa_nil)) (pa_cons (pe_tup (pa_cons (pv 1) (pa_cons (pv 2) (pa_cons (pv 2) pa_nil)))) (pa_cons (pe_tup (pa_cons (pv 2) (pa_cons (pv 1) pa_nil))) (pa_cons (pv 1) (pa_cons pe_dnewK (pa_cons pe_str (pa_cons pe_int pa_nil)))))))))))
  (pss_cons (ps_set (i := 4) sc__law_bad.nd rfl (.inl rfl) (pe_op op_cat (pv 4) (pe_lst (pa_cons pe_bl (pa_cons (pe_tup pa_nil) pa_nil)))))
  (pss_one (ps_ret (pe_callH h__law_pick (hr.mono (by decide)) (by rfl) (pa_cons (pv 0) (pa_cons (pv 4) pa_nil)))))))
    pss_nil)
  (pss_cons (ps_if (pt_cmpR op_lt (pv 3) pe_int (nomark _))
    (pss_one (ps_ret (pe_tup (pa_cons (pe_callH h__law_odd_hands (hr.mono (by decide)) (by rfl) (pa_cons (pv 0) (pa_cons (pv 1) pa_nil))) (pa_cons (pe_lst pa_nil) pa_nil)))))
    pss_nil)
  (pss_one (ps_ret (pe_tup (pa_cons (pe_callTy (call_listE K) (by rfl) m_list (by decide +kernel) (pa_cons (pv 1) pa_nil)) (pa_cons (pe_callH h__law_odd_ties (hr.mono (by decide)) (by rfl) (pa_cons (pv 0) (pa_cons (pv 1) (pa_cons (pv 2) pa_nil)))) pa_nil)))))))), ?_⟩
  walk_at "zz"
  refine ⟨s, _, rfl, by decide, by decide +kernel, hs, fun way H1 w0 w1 d1 => ?_⟩
  have s1 := d1.src
  have h1 := hands_dr hns hh d1
  have t1 := ties_dr tns ht d1
  walk_at "zz"
  refine z_ite (fun hw => ?_) (fun hw => ?_)
  · walk_at "zz"
    refine z_new (by simp) (fun l2 H2 n2 e2 h2 => ?_)
    walk_at "zz"
    refine z_new (by simp) (fun p3 H3 n3 e3 h3 => ?_)
    walk_at "zz"
    refine z_new (by simp) (fun p4 H4 n4 e4 h4 => ?_)
    walk_at "zz"
    refine z_new (by simp) (fun p5 H5 n5 e5 h5 => ?_)
    walk_at "zz"
    intro p6 n6
    have e6 : Same H5 (upd H5 p6 (.dK [])) := same_upd n6
    have h6 : upd H5 p6 (.dK []) p6 = some (.dK []) := upd_same
    generalize upd H5 p6 (.dK []) = H6 at e6 h6 ⊢
    walk_at "zz"
    refine z_new (by simp) (fun l7 H7 n7 e7 h7 => ?_)
    walk_at "zz"
    refine z_new (by simp) (fun p8 H8 n8 e8 h8 => ?_)
    walk_at "zz"
    refine z_new (by simp) (fun l9 H9 n9 e9 h9 => ?_)
    refine z_cat (e9 _ _ (e8 _ _ h7)) h9 (by simp) (fun la Ha na ea ha => ?_)
    have z8 := e9.trans ea
    have z6 := e7.trans (e8.trans z8)
    have z5 := e6.trans z6
    have z4 := e5.trans z5
    have z3 := e4.trans z4
    have z2 := e3.trans z3
    have z1 := e2.trans z2
    have sa := s1.same z1
    have Da : Dr s H1 Ha := Dr.of_same s1 z1
    have tup : ∀ {p : Addr} {xs : List V}, Ha p = some (.tup xs) → hole s Ha p = some (.tup xs) := fun h => hole_get (src_tup sa h) h
    have ta := ties_hole sa tns (ties_dr tns t1 Da)
    walk_at "zz"
    refine ⟨s, la, _, rfl, sa, src_new (s1.same (e2.trans (e3.trans (e4.trans (e5.trans (e6.trans (e7.trans (e8.trans e9)))))))) na, ha, by simp, by simp, fun i v Hb hv db => ?_⟩
    refine q v Hb (WebBad.kp (H := hole s Ha) ?_ (hole_dr db)) (d1.trans (Da.trans db))
    have mm := List.mem_of_getElem? hv
    clear hv
    simp only [List.mem_append, List.mem_cons, List.not_mem_nil, or_false] at mm
    rcases mm with (rfl | rfl | rfl | rfl | rfl | rfl | rfl | rfl | rfl) | (rfl | rfl)
    · exact .inl ⟨_, .non, by decide⟩
    · exact .inl ⟨_, .lst (hole_get (src_new s1 n2) (z2 _ _ h2)), by decide⟩
    · exact .inr ⟨p3, _, rfl, tup (z3 _ _ h3), .inl (by simp)⟩
    · exact .inr ⟨p4, _, rfl, tup (z4 _ _ h4), .inl (by simp)⟩
    · refine .inr ⟨p5, _, rfl, tup (z5 _ _ h5), .inr ⟨.ref t, .ref h, rfl, .inl (.inr ⟨t, _, rfl, ta.lst, ?_⟩)⟩⟩
      by_cases hT : T = []
      · exact .inl (by rw [hT]; rfl)
      · refine .inr (.inr ⟨T.map fun _ => false, by simp, fun i x k hx hk => ?_, ?_⟩)
        · obtain ⟨m, hm, mem, rfl⟩ := ties_at hx
          rw [List.getElem?_map, hm] at hk
          cases hk
          exact .inr ⟨m.1, _, rfl, ta.tup m mem, .inr ⟨_, _, true, false, rfl, .of_nm (okT.nm m mem).1, .inl ⟨_, .str _, by decide, rfl⟩, rfl⟩⟩
        · cases T with
          | nil => exact absurd rfl hT
          | cons a b => rfl
    · exact .inl ⟨_, .lst (hole_get hns (z1 _ _ h1.lst)), by decide⟩
    · exact .inl ⟨_, .dct (hole_get (src_new (s1.same (e2.trans (e3.trans (e4.trans e5)))) n6) (z6 _ _ h6)), by decide⟩
    · exact .inl ⟨_, .str _, by decide⟩
    · exact .inl ⟨_, .int _, by decide⟩
    · exact .inl ⟨_, .bl _, by decide⟩
    · exact .inr ⟨p8, _, rfl, tup (z8 _ _ h8), .inl (by simp)⟩
  · walk_at "zz"
    refine z_ite (fun hw => ?_) (fun hw => ?_)
    · walk_at "zz"
      refine ⟨s, h, L, n, rfl, s1, hns, h1, ok, fun v H2 bad d2 => ?_⟩
      walk_at "zz"
      refine z_new (by simp) (fun l3 H3 n3 e3 h3 => ?_)
      walk_at "zz"
      refine z_new (by simp) (fun p4 H4 n4 e4 h4 => ?_)
      have s2 := d2.src
      have e24 := e3.trans e4
      have s4 := s2.same e24
      have D4 : Dr s H2 H4 := Dr.of_same s2 e24
      refine q (.ref p4) H4 (.inr ⟨p4, _, rfl, hole_get (src_tup s4 h4) h4, .inr ⟨v, .ref l3, rfl, ?_⟩⟩) (d1.trans (d2.trans D4))
      rcases bad.kp (hole_dr D4) with b | ⟨h', L', ev, hh', v', nt⟩
      · exact .inl b
      · exact .inr ⟨h', L', ev, hh', v', .inl nt⟩
    · walk_at "zz"
      refine ⟨h, _, rfl, .inl (SqL.of h1.lst), fun l2 n2 => ?_⟩
      have e2 : Same H1 (upd H1 l2 (.lst (L.map fun m => V.ref m.1))) := same_upd n2
      have h2 : upd H1 l2 (.lst (L.map fun m => V.ref m.1)) l2 = some (.lst (L.map fun m => V.ref m.1)) := upd_same
      generalize upd H1 l2 (.lst (L.map fun m => V.ref m.1)) = H2 at e2 h2 ⊢
      have s2 := s1.same e2
      have D2 : Dr s H1 H2 := Dr.of_same s1 e2
      walk_at "zz"
      refine ⟨s, h, t, L, T, n, rfl, s2, hns, tns, hands_dr hns h1 D2, ok, ties_dr tns t1 D2, okT, apart, fun v H3 bad d3 => ?_⟩
      walk_at "zz"
      refine z_new (by simp) (fun p4 H4 n4 e4 h4 => ?_)
      have s3 := d3.src
      have s4 := s3.same e4
      have D4 : Dr s H3 H4 := Dr.of_same s3 e4
      have l2s := src_new s1 n2
      have hh4 := hands_dr hns h1 (D2.trans (d3.trans D4))
      have g4 : Hands (hole s H4) l2 L := hands_hole s4 l2s ⟨(d3.trans D4).keep _ _ l2s h2, hh4.tup, hh4.num⟩
      refine q (.ref p4) H4 (.inr ⟨p4, _, rfl, hole_get (src_tup s4 h4) h4, .inr ⟨.ref l2, v, rfl, .inr ⟨l2, L, rfl, g4, ok.v, ?_⟩⟩⟩) (d1.trans (D2.trans (d3.trans D4)))
      rcases bad.kp (hole_dr D4) with b | ⟨t', T', ev, ht', v', nt⟩
      · exact .inr (.inl b)
      · exact .inr (.inr ⟨t', T', ev, ht', v', nt⟩)
def spLaw (K : PySem.W.Frag) (P1 P2 P3 P4 : Addr) : Sp := fun vs H Q _ => ∃ (a : Addr) (ns : List Int), vs = [.ref a] ∧ SqL K H a (ns.map V.int) ∧ ns.length ≤ 63 ∧ GxR.TabG H P1 ∧ GxR.TabG H P2 ∧ GxR.TabG H P3 ∧ GxR.TabG H P4 ∧ ∀ H', Q (.bl true) H'
theorem cells {ns : List Int} (lo hi : Option Int) (hl : ns.length ≤ 63) : ∃ cs : List Int, cutV (ns.map V.int) lo hi = cs.map V.int ∧ cs.length ≤ 63 := by
  refine ⟨(ns.drop (HT.sIx (ns.map V.int).length 0 lo)).take (HT.sIx (ns.map V.int).length (ns.map V.int).length hi - HT.sIx (ns.map V.int).length 0 lo), ?_, ?_⟩
  · unfold cutV
    rw [List.map_take, List.map_drop]
  · rw [List.length_take, List.length_drop]
    omega
theorem cell_at {cs : List Int} {i : Nat} {v : V} (hv : (cs.map V.int)[i]? = some v) : ∃ c : Int, v = .int c := by
  rw [List.getElem?_map] at hv
  obtain ⟨c, _, e⟩ := Option.map_eq_some_iff.mp hv
  exact ⟨c, e.symm⟩
theorem ok_law {f P1 P2 P3 P4 CB : Addr} {fd : FuncData} (F : FnP K "law" s_law f fd) (m_range : mg "range" = none) (h_check_web : HasX P w K mg base 14 "check_web" ["web"] (spWebX [P1, P2, P3, P4] CB))
    (h__law_refused : Has P w K mg base 16 "_law_refused" ["_law_way", "_law_web_here"] (spRefused [P1, P2, P3, P4])) (h__law_cell_at : Has P w K mg base 1 "_law_cell_at" ["_law_script", "_law_k"] (spCell K)) (h__law_well : Has P w K mg base 1 "_law_well" ["_law_cell"] (spBegin K)) (h__law_web : Has P w K mg base 4 "_law_web" ["_law_well_here", "_law_most"] spWebL) (h__law_bad : Has P w K mg base 6 "_law_bad" ["_law_well_here", "_law_hands", "_law_ties_here"] spBad) : FnOk P w K mg base CX0 17 f fd ["_law_script"] (spLaw K P1 P2 P3 P4) := by
  refine F.ok sc_law (fun vs H Q E h => ?_) (fun cdv A outer s0 H vs Q E hr h => ?_)
  · obtain ⟨a, ns, rfl, _⟩ := h; rfl
  obtain ⟨a, ns, rfl, hS, hlen, hT1, hT2, hT3, hT4, q⟩ := h
  have hT : Zk.TGs H [P1, P2, P3, P4] := fun p hp => by
    simp only [List.mem_cons, List.not_mem_nil, or_false] at hp
    rcases hp with rfl | rfl | rfl | rfl
    · exact hT1
    · exact hT2
    · exact hT3
    · exact hT4
  generalize hPs : [P1, P2, P3, P4] = Ps at hT h_check_web h__law_refused
  refine ⟨_, PSs.nox (pss_cons (ps_for PassesOwn.never rfl (pi_listE K (pe_op op_cat (pe_lst (pa_cons (pe_callH h__law_cell_at (hr.mono (by decide)) (by rfl) (pa_cons (pv 0) (pa_cons pe_int pa_nil))) pa_nil)) (pe_slice (sl_listE K) (pv 0) (po_some pe_int) (po_some pe_int)))) (pg_name (i := 1) sc_law.nd rfl (.inl rfl))
    (pss_cons (ps_set (i := 2) sc_law.nd rfl (.inl rfl) (pe_callH h__law_well (hr.mono (by decide)) (by rfl) (pa_cons (pv 1) pa_nil)))
  (pss_cons (ps_asg (pe_callH h__law_web (hr.mono (by decide)) (by rfl) (pa_cons (pv 2) (pa_cons pe_int pa_nil))) (pg_tup rfl (pgs_cons (pg_name (i := 3) sc_law.nd rfl (.inl rfl)) (pgs_cons (pg_name (i := 4) sc_law.nd rfl (.inl rfl)) pgs_nil))))
  (pss_cons (ps_for PassesOwn.never rfl (pi_range1 (by rfl) m_range (pa_cons pe_int pa_nil)) (pg_name (i := 5) sc_law.nd rfl (.inl rfl))
    (pss_cons (ps_set (i := 6) sc_law.nd rfl (.inl rfl) (pe_callH h__law_bad (hr.mono (by decide)) (by rfl) (pa_cons (pv 2) (pa_cons (pv 3) (pa_cons (pv 4) pa_nil)))))
  (pss_one (ps_if (PW.pt (pw_or (pt_not (pt_val (pe_callH h__law_refused (hr.mono (by decide)) (by rfl) (pa_cons pe_int (pa_cons (pv 6) pa_nil))))) (pw_or1 (pt_not (pt_val (pe_callH h__law_refused (hr.mono (by decide)) (by rfl) (pa_cons pe_int (pa_cons (pv 6) pa_nil))))))))
    (pss_one (ps_ret pe_bl))
    pss_nil))))
  (pss_one (ps_if (pt_cmpR op_notN1 (pe_callHX h_check_web (hr.mono (by decide)) (by rfl) takes0 (pa_cons (pe_tup (pa_cons (pv 3) (pa_cons (pv 4) pa_nil))) pa_nil)) pe_non (nomark _))
    (pss_one (ps_ret pe_bl))
    pss_nil))))))
  (pss_one (ps_ret pe_bl))), ?_⟩
  walk_at "zz"
  refine ⟨a, ns, 0, rfl, hS, hlen, fun c0 => ?_⟩
  walk_at "zz"
  refine z_new (by simp) (fun p1 H1 n1 s1 h1 => ?_)
  walk_at "zz"
  refine z_slL (s1.seq hS) (fun p2 H2 n2 s2 h2 => ?_)
  obtain ⟨cs, hcs, hcl⟩ := cells (some 1) (some 30) hlen
  rw [hcs] at h2
  refine z_cat (s2 _ _ h1) h2 (by simp; omega) (fun p3 H3 n3 s3 h3 => ?_)
  have e3 := s1.trans (s2.trans s3)
  refine ⟨p3, rfl, ⟨_, SqL.of h3⟩, for_list (xs := (c0 :: cs).map V.int) (fun i σ H' => (∃ y1 y2 y3 y4 y5 y6, σ = [some (.ref a), y1, y2, y3, y4, y5, y6]) ∧ H' p3 = some (.lst ((c0 :: cs).map V.int)) ∧ Zk.TGs H' Ps) ⟨⟨_, _, _, _, _, _, rfl⟩, h3, hT.same e3⟩ (fun i σ H' _ h => SqL.of h.2.1) ?_ ?_⟩
  · rintro i v σ H4 hv ⟨⟨y1, y2, y3, y4, y5, y6, rfl⟩, h4, t4⟩
    obtain ⟨c, rfl⟩ := cell_at hv
    walk_at "zz"
    refine ⟨c, rfl, fun s H5 n5 e5 r5 => ?_⟩
    have ps : p3 ≠ s := ne_of_none h4 n5
    walk_at "zz"
    refine ⟨s, rfl, r5, fun p h t L T n H6 hp hn hh tn ht ok okT apart d6 => ?_⟩
    have hns : h ≠ s := src_new r5 hn
    have tns : t ≠ s := src_new r5 tn
    walk_at "zz"
    refine z_gTup (SqT.of hp) rfl ?_
    walk_at "zz"
    refine ⟨_, rfl, by decide, by decide, ?_⟩
    have tg6 : Zk.TGs H6 Ps := (t4.same e5).dr d6
    have p36 := d6.keep _ _ ps (e5 _ _ h4)
    refine for_range (lo := 0) (n := 4) (fun i σ H' => (∃ y5 y6, σ = [some (.ref a), some (.int c), some (.ref s), some (.ref h), some (.ref t), y5, y6]) ∧ Src H' s ∧ Hands H' h L ∧ Ties H' t T ∧ H' p3 = some (.lst ((c0 :: cs).map V.int)) ∧ Zk.TGs H' Ps) ⟨⟨_, _, rfl⟩, d6.src, hh, ht, p36, tg6⟩ ?_ ?_
    · rintro i σ H7 hi ⟨⟨y5, y6, rfl⟩, s7, h7, t7, p7, g7⟩
      walk_at "zz"
      refine ⟨s, h, t, L, T, n, rfl, s7, hns, tns, h7, ok, t7, okT, apart, fun v H8 bad d8 => ?_⟩
      have b8 := bad.kp hole_up
      have g8 := g7.dr d8
      walk_at "zz"
      refine ⟨0, v, rfl, g8, b8, fun H9 k9 => ?_⟩
      walk_at "zz"
      refine ⟨1, v, rfl, k9.tg, b8.kp k9.kp, fun Ha ka => ?_⟩
      have k8 := k9.trans ka
      walk_at "zz"
      exact ⟨⟨_, _, rfl⟩, d8.src.kp k8.kp, (hands_dr hns h7 d8).kp k8.kp, (ties_dr tns t7 d8).kp k8.kp, k8.kp.lst (d8.keep _ _ ps p7), k8.tg⟩
    · rintro σ H7 ⟨⟨y5, y6, rfl⟩, s7, h7, t7, p7, g7⟩
      walk_at "zz"
      refine z_callS ?_
      walk_at "zz"
      refine z_new (by simp) (fun p8 H8 n8 e8 h8 => ?_)
      have c8 := Kc.of_same g7 e8
      refine ⟨_, rfl, c8.tg, .inr ⟨p8, L, T, rfl, ⟨⟨h, t, h8, h7.kp c8.kp, t7.kp c8.kp⟩⟩, ok.v, ok.t, okT.v, okT.t, fun H9 c9 => ?_⟩⟩
      walk_at "zz"
      refine z_notNn ?_
      walk_at "zz"
      exact ⟨⟨_, _, _, _, _, _, rfl⟩, c9.kp.lst (e8 _ _ p7), c9.tg⟩
  · rintro σ H5 ⟨⟨y1, y2, y3, y4, y5, y6, rfl⟩, h5, t5⟩
    walk_at "zz"
    exact q _
end
abbrev PL (K : PySem.W.Frag) : List Addr := [(He.cT K ("is_name", none)).2, (He.cT K ("is_numbers", none)).2, (He.cT K ("check_hands", none)).2, (He.cT K ("check_ties", none)).2]
/-! ### the head: facts by names, the run -/
def d_is_whole_number : He.DefD := ⟨("is_whole_number", none), "is_whole_number", "is_whole_number", defArgs (topS 9), defBody (topS 9), defScope (topS 9), [], []⟩
def d_is_name : He.DefD := ⟨("is_name", none), "is_name", "is_name", defArgs (topS 15), defBody (topS 15), defScope (topS 15), [], []⟩
def d_is_own_number : He.DefD := ⟨("is_own_number", none), "is_own_number", "is_own_number", defArgs (topS 16), defBody (topS 16), defScope (topS 16), [], []⟩
def d_is_numbers : He.DefD := ⟨("is_numbers", none), "is_numbers", "is_numbers", defArgs (topS 17), defBody (topS 17), defScope (topS 17), [], []⟩
def d_are_unlike_names : He.DefD := ⟨("are_unlike_names", none), "are_unlike_names", "are_unlike_names", defArgs (topS 18), defBody (topS 18), defScope (topS 18), [], []⟩
def d_is_hand : He.DefD := ⟨("is_hand", none), "is_hand", "is_hand", defArgs (topS 19), defBody (topS 19), defScope (topS 19), [], []⟩
def d_is_tie : He.DefD := ⟨("is_tie", none), "is_tie", "is_tie", defArgs (topS 20), defBody (topS 20), defScope (topS 20), [], []⟩
def d_check_hands : He.DefD := ⟨("check_hands", none), "check_hands", "check_hands", defArgs (topS 21), defBody (topS 21), defScope (topS 21), [], []⟩
def d_check_ties : He.DefD := ⟨("check_ties", none), "check_ties", "check_ties", defArgs (topS 22), defBody (topS 22), defScope (topS 22), [], []⟩
def d_check_web : He.DefD := ⟨("check_web", none), "check_web", "check_web", defArgs (topS 23), defBody (topS 23), defScope (topS 23), [], []⟩
def d_tied_to : He.DefD := ⟨("tied_to", none), "tied_to", "tied_to", defArgs (topS 24), defBody (topS 24), defScope (topS 24), [], []⟩
def d_led_to : He.DefD := ⟨("led_to", none), "led_to", "led_to", defArgs (topS 25), defBody (topS 25), defScope (topS 25), [], []⟩
def d_is_whole : He.DefD := ⟨("is_whole", none), "is_whole", "is_whole", defArgs (topS 26), defBody (topS 26), defScope (topS 26), [], []⟩
def d__law_cell_at : He.DefD := ⟨("_law_cell_at", none), "_law_cell_at", "_law_cell_at", defArgs (topS 28), defBody (topS 28), defScope (topS 28), [], []⟩
def d__law_mixed : He.DefD := ⟨("_law_mixed", none), "_law_mixed", "_law_mixed", defArgs (topS 29), defBody (topS 29), defScope (topS 29), [], []⟩
def d__law_well : He.DefD := ⟨("_law_well", none), "_law_well", "_law_well", defArgs (topS 30), defBody (topS 30), defScope (topS 30), [], []⟩
def d__law_draw : He.DefD := ⟨("_law_draw", none), "_law_draw", "_law_draw", defArgs (topS 31), defBody (topS 31), defScope (topS 31), [], []⟩
def d__law_pick : He.DefD := ⟨("_law_pick", none), "_law_pick", "_law_pick", defArgs (topS 32), defBody (topS 32), defScope (topS 32), [], []⟩
def d__law_names : He.DefD := ⟨("_law_names", none), "_law_names", "_law_names", defArgs (topS 33), defBody (topS 33), defScope (topS 33), [], []⟩
def d__law_numbers : He.DefD := ⟨("_law_numbers", none), "_law_numbers", "_law_numbers", defArgs (topS 34), defBody (topS 34), defScope (topS 34), [], []⟩
def d__law_ties : He.DefD := ⟨("_law_ties", none), "_law_ties", "_law_ties", defArgs (topS 35), defBody (topS 35), defScope (topS 35), [], []⟩
def d__law_web : He.DefD := ⟨("_law_web", none), "_law_web", "_law_web", defArgs (topS 36), defBody (topS 36), defScope (topS 36), [], []⟩
def d__law_odd_hand : He.DefD := ⟨("_law_odd_hand", none), "_law_odd_hand", "_law_odd_hand", defArgs (topS 37), defBody (topS 37), defScope (topS 37), [], []⟩
def d__law_odd_hands : He.DefD := ⟨("_law_odd_hands", none), "_law_odd_hands", "_law_odd_hands", defArgs (topS 38), defBody (topS 38), defScope (topS 38), [], []⟩
def d__law_odd_ties : He.DefD := ⟨("_law_odd_ties", none), "_law_odd_ties", "_law_odd_ties", defArgs (topS 39), defBody (topS 39), defScope (topS 39), [], []⟩
def d__law_bad : He.DefD := ⟨("_law_bad", none), "_law_bad", "_law_bad", defArgs (topS 40), defBody (topS 40), defScope (topS 40), [], []⟩
def d__law_refused : He.DefD := ⟨("_law_refused", none), "_law_refused", "_law_refused", defArgs (topS 41), defBody (topS 41), defScope (topS 41), [], []⟩
def d_law : He.DefD := ⟨("law", none), "law", "law", defArgs (topS 42), defBody (topS 42), defScope (topS 42), [], []⟩
def fn : List He.DefD := [d_is_whole_number, d_is_name, d_is_own_number, d_is_numbers, d_are_unlike_names, d_is_hand, d_is_tie, d_check_hands, d_check_ties, d_check_web, d_is_whole, d__law_refused, d__law_cell_at, d__law_mixed, d__law_well, d__law_draw, d__law_pick, d__law_names, d__law_numbers, d__law_ties, d__law_web, d__law_odd_hand, d__law_odd_hands, d__law_odd_ties, d__law_bad, d_law]
def exT (K : PySem.W.Frag) : Bool := excB K (He.ga K "BadWeb") [.ref (He.ga K "BadWeb"), .type "ValueError"] [.ref (He.ga K "BadBooks"), .ref (He.ga K "NoDeed"), .ref (He.ga K "NoNear"), .ref (He.ga K "NoRow"), .ref (He.ga K "NoText")]
def fa : List He.Fa := [.glo "is_whole_number", .glo "is_name", .glo "is_own_number", .glo "is_numbers", .glo "are_unlike_names", .glo "is_hand", .glo "is_tie", .glo "check_hands", .glo "check_ties", .glo "check_web", .glo "is_whole", .glo "_law_refused", .glo "_law_cell_at", .glo "_law_mixed", .glo "_law_well", .glo "_law_draw", .glo "_law_pick", .glo "_law_names", .glo "_law_numbers", .glo "_law_ties", .glo "_law_web", .glo "_law_odd_hand", .glo "_law_odd_hands", .glo "_law_odd_ties", .glo "_law_bad", .glo "law", .free "isinstance", .free "int", .free "bool", .free "str", .free "tuple", .free "list", .free "len", .free "all", .free "range", .free "min", .free "max", .free "sorted", .free "set", .free "ValueError", .free "dict", .int "LONGEST_NAME" 8, .int "MOST_NUMBERS" 3, .int "GREATEST_NUMBER" 1000000000000, .int "MOST_HANDS" 8, .glo "SumError", .glo "BadWeb", .glo "BadBooks", .glo "NoDeed", .glo "NoNear", .glo "NoRow", .glo "NoText", .exc "BadWeb", .exm "BadWeb" "SumError" true]
abbrev R : PySem.W.OpenRow := PySem.W.OpenLaw.row PySem.Challenge.rw_sumtold_k13_what_is_no_web
def tf : List He.Defn := [("is_name", none), ("is_numbers", none), ("check_hands", none), ("check_ties", none)]
abbrev hk : PySem.W.Hook := He.hookX 43 fa fn [] tf exT
def ob (s : PySem.W.SharedT) : He.AlX := He.obsX 43 fa fn [] tf exT (HandSHeadRun.getT s)
theorem ob_eq (s : PySem.W.SharedT) : ob s = hk.obs s.abs := He.obsX_eq (HandSHeadRun.getT_eq s)
theorem run (w : World) : HandSHeadRun.RunEq R (PySem.W.view R.prog [42]) hk ob 5000 [("SumError" : PySem.Str), ("BadWeb" : PySem.Str), ("NoDeed" : PySem.Str), ("BadBooks" : PySem.Str), ("NoNear" : PySem.Str), ("NoText" : PySem.Str), ("NoRow" : PySem.Str), ("is_whole_number" : PySem.Str), ("LONGEST_NAME" : PySem.Str), ("MOST_NUMBERS" : PySem.Str), ("GREATEST_NUMBER" : PySem.Str), ("MOST_HANDS" : PySem.Str), ("is_name" : PySem.Str), ("is_own_number" : PySem.Str), ("is_numbers" : PySem.Str), ("are_unlike_names" : PySem.Str), ("is_hand" : PySem.Str), ("is_tie" : PySem.Str), ("check_hands" : PySem.Str), ("check_ties" : PySem.Str), ("check_web" : PySem.Str), ("tied_to" : PySem.Str), ("led_to" : PySem.Str), ("is_whole" : PySem.Str), ("_law_cell_at" : PySem.Str), ("_law_mixed" : PySem.Str), ("_law_well" : PySem.Str), ("_law_draw" : PySem.Str), ("_law_pick" : PySem.Str), ("_law_names" : PySem.Str), ("_law_numbers" : PySem.Str), ("_law_ties" : PySem.Str), ("_law_web" : PySem.Str), ("_law_odd_hand" : PySem.Str), ("_law_odd_hands" : PySem.Str), ("_law_odd_ties" : PySem.Str), ("_law_bad" : PySem.Str), ("_law_refused" : PySem.Str)] w := by
  intro os
  kernel_rfl
theorem facts {P : Program} {w : World} {K : PySem.W.Frag} {h : Heap} {mg : Str → Option Value} {f : Addr} (X : K.In h) (G : h.Ns mainGlobals mg) (hfa : mg ("law" : Str) = some (.ref f)) (c : He.SaysD fa fn K) (cm : exT K = true) :
    ∃ fd : FuncData, (∀ (s : Shared) (v : Value), BindsTo s fd ⟨[v], []⟩ [("_law_script", v)]) ∧ ∀ base : Heap, K.In base → base.Ns mainGlobals mg → (∀ p ∈ tf, LamX.TabB base mg (He.cT K p).1 (He.cT K p).2) → FnOk P w K mg base CX0 17 f fd ["_law_script"] (spLaw K (He.cT K ("is_name", none)).2 (He.cT K ("is_numbers", none)).2 (He.cT K ("check_hands", none)).2 (He.cT K ("check_ties", none)).2) := by
  obtain ⟨fd_is_whole_number, F_is_whole_number⟩ := c.def_ 0 (d := d_is_whole_number) rfl
  obtain ⟨fd_is_name, F_is_name⟩ := c.def_ 1 (d := d_is_name) rfl
  obtain ⟨fd_is_own_number, F_is_own_number⟩ := c.def_ 2 (d := d_is_own_number) rfl
  obtain ⟨fd_is_numbers, F_is_numbers⟩ := c.def_ 3 (d := d_is_numbers) rfl
  obtain ⟨fd_are_unlike_names, F_are_unlike_names⟩ := c.def_ 4 (d := d_are_unlike_names) rfl
  obtain ⟨fd_is_hand, F_is_hand⟩ := c.def_ 5 (d := d_is_hand) rfl
  obtain ⟨fd_is_tie, F_is_tie⟩ := c.def_ 6 (d := d_is_tie) rfl
  obtain ⟨fd_check_hands, F_check_hands⟩ := c.def_ 7 (d := d_check_hands) rfl
  obtain ⟨fd_check_ties, F_check_ties⟩ := c.def_ 8 (d := d_check_ties) rfl
  obtain ⟨fd_check_web, F_check_web⟩ := c.def_ 9 (d := d_check_web) rfl
  obtain ⟨fd_is_whole, F_is_whole⟩ := c.def_ 10 (d := d_is_whole) rfl
  obtain ⟨fd__law_refused, F__law_refused⟩ := c.def_ 11 (d := d__law_refused) rfl
  obtain ⟨fd__law_cell_at, F__law_cell_at⟩ := c.def_ 12 (d := d__law_cell_at) rfl
  obtain ⟨fd__law_mixed, F__law_mixed⟩ := c.def_ 13 (d := d__law_mixed) rfl
  obtain ⟨fd__law_well, F__law_well⟩ := c.def_ 14 (d := d__law_well) rfl
  obtain ⟨fd__law_draw, F__law_draw⟩ := c.def_ 15 (d := d__law_draw) rfl
  obtain ⟨fd__law_pick, F__law_pick⟩ := c.def_ 16 (d := d__law_pick) rfl
  obtain ⟨fd__law_names, F__law_names⟩ := c.def_ 17 (d := d__law_names) rfl
  obtain ⟨fd__law_numbers, F__law_numbers⟩ := c.def_ 18 (d := d__law_numbers) rfl
  obtain ⟨fd__law_ties, F__law_ties⟩ := c.def_ 19 (d := d__law_ties) rfl
  obtain ⟨fd__law_web, F__law_web⟩ := c.def_ 20 (d := d__law_web) rfl
  obtain ⟨fd__law_odd_hand, F__law_odd_hand⟩ := c.def_ 21 (d := d__law_odd_hand) rfl
  obtain ⟨fd__law_odd_hands, F__law_odd_hands⟩ := c.def_ 22 (d := d__law_odd_hands) rfl
  obtain ⟨fd__law_odd_ties, F__law_odd_ties⟩ := c.def_ 23 (d := d__law_odd_ties) rfl
  obtain ⟨fd__law_bad, F__law_bad⟩ := c.def_ 24 (d := d__law_bad) rfl
  obtain ⟨fd_law, F_law⟩ := c.def_ 25 (d := d_law) rfl
  have e := hfa.symm.trans (He.glo_ok X G (c.fact 25 (f := .glo "law") rfl))
  cases e
  have g_is_whole_number := He.glo_ok X G (c.fact 0 (f := .glo "is_whole_number") rfl)
  have g_is_name := He.glo_ok X G (c.fact 1 (f := .glo "is_name") rfl)
  have g_is_own_number := He.glo_ok X G (c.fact 2 (f := .glo "is_own_number") rfl)
  have g_is_numbers := He.glo_ok X G (c.fact 3 (f := .glo "is_numbers") rfl)
  have g_are_unlike_names := He.glo_ok X G (c.fact 4 (f := .glo "are_unlike_names") rfl)
  have g_is_hand := He.glo_ok X G (c.fact 5 (f := .glo "is_hand") rfl)
  have g_is_tie := He.glo_ok X G (c.fact 6 (f := .glo "is_tie") rfl)
  have g_check_hands := He.glo_ok X G (c.fact 7 (f := .glo "check_hands") rfl)
  have g_check_ties := He.glo_ok X G (c.fact 8 (f := .glo "check_ties") rfl)
  have g_check_web := He.glo_ok X G (c.fact 9 (f := .glo "check_web") rfl)
  have g_is_whole := He.glo_ok X G (c.fact 10 (f := .glo "is_whole") rfl)
  have g__law_refused := He.glo_ok X G (c.fact 11 (f := .glo "_law_refused") rfl)
  have g__law_cell_at := He.glo_ok X G (c.fact 12 (f := .glo "_law_cell_at") rfl)
  have g__law_mixed := He.glo_ok X G (c.fact 13 (f := .glo "_law_mixed") rfl)
  have g__law_well := He.glo_ok X G (c.fact 14 (f := .glo "_law_well") rfl)
  have g__law_draw := He.glo_ok X G (c.fact 15 (f := .glo "_law_draw") rfl)
  have g__law_pick := He.glo_ok X G (c.fact 16 (f := .glo "_law_pick") rfl)
  have g__law_names := He.glo_ok X G (c.fact 17 (f := .glo "_law_names") rfl)
  have g__law_numbers := He.glo_ok X G (c.fact 18 (f := .glo "_law_numbers") rfl)
  have g__law_ties := He.glo_ok X G (c.fact 19 (f := .glo "_law_ties") rfl)
  have g__law_web := He.glo_ok X G (c.fact 20 (f := .glo "_law_web") rfl)
  have g__law_odd_hand := He.glo_ok X G (c.fact 21 (f := .glo "_law_odd_hand") rfl)
  have g__law_odd_hands := He.glo_ok X G (c.fact 22 (f := .glo "_law_odd_hands") rfl)
  have g__law_odd_ties := He.glo_ok X G (c.fact 23 (f := .glo "_law_odd_ties") rfl)
  have g__law_bad := He.glo_ok X G (c.fact 24 (f := .glo "_law_bad") rfl)
  have m_isinstance := He.free_ok X G (c.fact 26 (f := .free "isinstance") rfl)
  have m_int := He.free_ok X G (c.fact 27 (f := .free "int") rfl)
  have m_bool := He.free_ok X G (c.fact 28 (f := .free "bool") rfl)
  have m_str := He.free_ok X G (c.fact 29 (f := .free "str") rfl)
  have m_tuple := He.free_ok X G (c.fact 30 (f := .free "tuple") rfl)
  have m_list := He.free_ok X G (c.fact 31 (f := .free "list") rfl)
  have m_len := He.free_ok X G (c.fact 32 (f := .free "len") rfl)
  have m_all := He.free_ok X G (c.fact 33 (f := .free "all") rfl)
  have m_range := He.free_ok X G (c.fact 34 (f := .free "range") rfl)
  have m_min := He.free_ok X G (c.fact 35 (f := .free "min") rfl)
  have m_max := He.free_ok X G (c.fact 36 (f := .free "max") rfl)
  have m_sorted := He.free_ok X G (c.fact 37 (f := .free "sorted") rfl)
  have m_set := He.free_ok X G (c.fact 38 (f := .free "set") rfl)
  have m_ValueError := He.free_ok X G (c.fact 39 (f := .free "ValueError") rfl)
  have m_dict := He.free_ok X G (c.fact 40 (f := .free "dict") rfl)
  obtain ⟨t_LONGEST_NAME, c_LONGEST_NAME⟩ := He.int_ok X G (c.fact 41 (f := .int "LONGEST_NAME" 8) rfl)
  obtain ⟨t_MOST_NUMBERS, c_MOST_NUMBERS⟩ := He.int_ok X G (c.fact 42 (f := .int "MOST_NUMBERS" 3) rfl)
  obtain ⟨t_GREATEST_NUMBER, c_GREATEST_NUMBER⟩ := He.int_ok X G (c.fact 43 (f := .int "GREATEST_NUMBER" 1000000000000) rfl)
  obtain ⟨t_MOST_HANDS, c_MOST_HANDS⟩ := He.int_ok X G (c.fact 44 (f := .int "MOST_HANDS" 8) rfl)
  have g_SumError := He.glo_ok X G (c.fact 45 (f := .glo "SumError") rfl)
  have g_BadWeb := He.glo_ok X G (c.fact 46 (f := .glo "BadWeb") rfl)
  have g_BadBooks := He.glo_ok X G (c.fact 47 (f := .glo "BadBooks") rfl)
  have g_NoDeed := He.glo_ok X G (c.fact 48 (f := .glo "NoDeed") rfl)
  have g_NoNear := He.glo_ok X G (c.fact 49 (f := .glo "NoNear") rfl)
  have g_NoRow := He.glo_ok X G (c.fact 50 (f := .glo "NoRow") rfl)
  have g_NoText := He.glo_ok X G (c.fact 51 (f := .glo "NoText") rfl)
  have e_BadWeb := errC_of (c.fact 52 (f := .exc "BadWeb") rfl)
  have exm := He.exm_ok (c.fact 53 (f := .exm "BadWeb" "SumError" true) rfl)
  have ec := excB_ok cm
  have b_is_whole_number : Binds K fd_is_whole_number ["thing"] [] := F_is_whole_number.bindsN fun _ _ _ _ _ _ us hl => match us, hl with | [_], _ => rfl
  have b_is_name : Binds K fd_is_name ["thing"] [] := F_is_name.bindsN fun _ _ _ _ _ _ us hl => match us, hl with | [_], _ => rfl
  have b_is_own_number : Binds K fd_is_own_number ["thing"] [] := F_is_own_number.bindsN fun _ _ _ _ _ _ us hl => match us, hl with | [_], _ => rfl
  have b_is_numbers : Binds K fd_is_numbers ["thing"] [] := F_is_numbers.bindsN fun _ _ _ _ _ _ us hl => match us, hl with | [_], _ => rfl
  have b_are_unlike_names : Binds K fd_are_unlike_names ["one", "other"] [] := F_are_unlike_names.bindsN fun _ _ _ _ _ _ us hl => match us, hl with | [_, _], _ => rfl
  have b_is_hand : Binds K fd_is_hand ["thing"] [] := F_is_hand.bindsN fun _ _ _ _ _ _ us hl => match us, hl with | [_], _ => rfl
  have b_is_tie : Binds K fd_is_tie ["thing"] [] := F_is_tie.bindsN fun _ _ _ _ _ _ us hl => match us, hl with | [_], _ => rfl
  have b_check_hands : Binds K fd_check_hands ["hands"] [] := F_check_hands.bindsN fun _ _ _ _ _ _ us hl => match us, hl with | [_], _ => rfl
  have b_check_ties : Binds K fd_check_ties ["ties", "names"] [] := F_check_ties.bindsN fun _ _ _ _ _ _ us hl => match us, hl with | [_, _], _ => rfl
  have b_check_web : Binds K fd_check_web ["web"] [] := F_check_web.bindsN fun _ _ _ _ _ _ us hl => match us, hl with | [_], _ => rfl
  have b_is_whole : Binds K fd_is_whole ["web"] [] := F_is_whole.bindsN fun _ _ _ _ _ _ us hl => match us, hl with | [_], _ => rfl
  have b__law_refused : Binds K fd__law_refused ["_law_way", "_law_web_here"] [] := F__law_refused.bindsN fun _ _ _ _ _ _ us hl => match us, hl with | [_, _], _ => rfl
  have b__law_cell_at : Binds K fd__law_cell_at ["_law_script", "_law_k"] [] := F__law_cell_at.bindsN fun _ _ _ _ _ _ us hl => match us, hl with | [_, _], _ => rfl
  have b__law_mixed : Binds K fd__law_mixed ["_law_cell", "_law_k"] [] := F__law_mixed.bindsN fun _ _ _ _ _ _ us hl => match us, hl with | [_, _], _ => rfl
  have b__law_well : Binds K fd__law_well ["_law_cell"] [] := F__law_well.bindsN fun _ _ _ _ _ _ us hl => match us, hl with | [_], _ => rfl
  have b__law_draw : Binds K fd__law_draw ["_law_well_here", "_law_many"] [] := F__law_draw.bindsN fun _ _ _ _ _ _ us hl => match us, hl with | [_, _], _ => rfl
  have b__law_pick : Binds K fd__law_pick ["_law_well_here", "_law_some"] [] := F__law_pick.bindsN fun _ _ _ _ _ _ us hl => match us, hl with | [_, _], _ => rfl
  have b__law_names : Binds K fd__law_names ["_law_well_here", "_law_many"] [] := F__law_names.bindsN fun _ _ _ _ _ _ us hl => match us, hl with | [_, _], _ => rfl
  have b__law_numbers : Binds K fd__law_numbers ["_law_well_here", "_law_size"] [] := F__law_numbers.bindsN fun _ _ _ _ _ _ us hl => match us, hl with | [_, _], _ => rfl
  have b__law_ties : Binds K fd__law_ties ["_law_well_here", "_law_names_here", "_law_share"] [] := F__law_ties.bindsN fun _ _ _ _ _ _ us hl => match us, hl with | [_, _, _], _ => rfl
  have b__law_web : Binds K fd__law_web ["_law_well_here", "_law_most"] [] := F__law_web.bindsN fun _ _ _ _ _ _ us hl => match us, hl with | [_, _], _ => rfl
  have b__law_odd_hand : Binds K fd__law_odd_hand ["_law_well_here", "_law_hands"] [] := F__law_odd_hand.bindsN fun _ _ _ _ _ _ us hl => match us, hl with | [_, _], _ => rfl
  have b__law_odd_hands : Binds K fd__law_odd_hands ["_law_well_here", "_law_hands"] [] := F__law_odd_hands.bindsN fun _ _ _ _ _ _ us hl => match us, hl with | [_, _], _ => rfl
  have b__law_odd_ties : Binds K fd__law_odd_ties ["_law_well_here", "_law_hands", "_law_ties_here"] [] := F__law_odd_ties.bindsN fun _ _ _ _ _ _ us hl => match us, hl with | [_, _, _], _ => rfl
  have b__law_bad : Binds K fd__law_bad ["_law_well_here", "_law_hands", "_law_ties_here"] [] := F__law_bad.bindsN fun _ _ _ _ _ _ us hl => match us, hl with | [_, _, _], _ => rfl
  have b_law := FunD.bindsA (ps := ["_law_script"]) F_law fun _ _ _ _ _ _ us hl => match us, hl with | [_], _ => rfl
  refine ⟨fd_law, fun s v => b_law s [v] rfl, fun base _ _ TBs => ?_⟩
  have T_is_name : GxR.TabB base mg (He.cT K ("is_name", none)).1 (He.cT K ("is_name", none)).2 := by
    have t := TBs ("is_name", none) (by simp [tf])
    exact ⟨t.code, t.bm, t.gP⟩
  have k_is_name : fd_is_name.code = .ref (He.cT K ("is_name", none)).1 := code_at (p := ("is_name", none)) F_is_name
  have T_is_numbers : GxR.TabB base mg (He.cT K ("is_numbers", none)).1 (He.cT K ("is_numbers", none)).2 := by
    have t := TBs ("is_numbers", none) (by simp [tf])
    exact ⟨t.code, t.bm, t.gP⟩
  have k_is_numbers : fd_is_numbers.code = .ref (He.cT K ("is_numbers", none)).1 := code_at (p := ("is_numbers", none)) F_is_numbers
  have T_check_hands : GxR.TabB base mg (He.cT K ("check_hands", none)).1 (He.cT K ("check_hands", none)).2 := by
    have t := TBs ("check_hands", none) (by simp [tf])
    exact ⟨t.code, t.bm, t.gP⟩
  have k_check_hands : fd_check_hands.code = .ref (He.cT K ("check_hands", none)).1 := code_at (p := ("check_hands", none)) F_check_hands
  have T_check_ties : GxR.TabB base mg (He.cT K ("check_ties", none)).1 (He.cT K ("check_ties", none)).2 := by
    have t := TBs ("check_ties", none) (by simp [tf])
    exact ⟨t.code, t.bm, t.gP⟩
  have k_check_ties : fd_check_ties.code = .ref (He.cT K ("check_ties", none)).1 := code_at (p := ("check_ties", none)) F_check_ties
  have h_is_whole_number : Has P w K mg base _ "is_whole_number" _ _ := ⟨_, fd_is_whole_number, ok_is_whole_number (P := P) (w := w) (base := base) F_is_whole_number m_isinstance m_int m_bool, F_is_whole_number.kp, b_is_whole_number, g_is_whole_number⟩
  have h_is_name : Has P w K mg base _ "is_name" _ _ := ⟨_, fd_is_name, ok_is_name (P := P) (w := w) (base := base) F_is_name k_is_name T_is_name m_isinstance m_str m_len m_all c_LONGEST_NAME, F_is_name.kp, b_is_name, g_is_name⟩
  have h_is_own_number : Has P w K mg base _ "is_own_number" _ _ := ⟨_, fd_is_own_number, ok_is_own_number (P := P) (w := w) (base := base) F_is_own_number c_GREATEST_NUMBER h_is_whole_number, F_is_own_number.kp, b_is_own_number, g_is_own_number⟩
  have h_is_numbers : Has P w K mg base _ "is_numbers" _ _ := ⟨_, fd_is_numbers, ok_is_numbers (P := P) (w := w) (base := base) F_is_numbers k_is_numbers T_is_numbers m_isinstance m_tuple m_len m_all c_MOST_NUMBERS h_is_own_number, F_is_numbers.kp, b_is_numbers, g_is_numbers⟩
  have h_are_unlike_names : Has P w K mg base _ "are_unlike_names" _ _ := ⟨_, fd_are_unlike_names, ok_are_unlike_names (P := P) (w := w) (base := base) F_are_unlike_names h_is_name, F_are_unlike_names.kp, b_are_unlike_names, g_are_unlike_names⟩
  have h_is_hand : Has P w K mg base _ "is_hand" _ _ := ⟨_, fd_is_hand, ok_is_hand (P := P) (w := w) (base := base) F_is_hand (Ps := PL K) (by simp) (by simp) m_isinstance m_tuple m_len h_is_name h_is_numbers, F_is_hand.kp, b_is_hand, g_is_hand⟩
  have h_is_tie : Has P w K mg base _ "is_tie" _ _ := ⟨_, fd_is_tie, ok_is_tie (P := P) (w := w) (base := base) F_is_tie (Ps := PL K) (by simp) m_isinstance m_tuple m_len h_are_unlike_names, F_is_tie.kp, b_is_tie, g_is_tie⟩
  have h_check_hands : HasX P w K mg base _ "check_hands" _ _ := ⟨_, fd_check_hands, ok_check_hands (P := P) (w := w) (base := base) F_check_hands k_check_hands T_check_hands (by simp) e_BadWeb g_BadWeb m_isinstance m_list m_len m_all c_MOST_HANDS h_is_hand, F_check_hands.kp, b_check_hands, g_check_hands⟩
  have h_check_ties : HasX P w K mg base _ "check_ties" _ _ := ⟨_, fd_check_ties, ok_check_ties (P := P) (w := w) (base := base) F_check_ties k_check_ties T_check_ties (by simp) e_BadWeb g_BadWeb m_isinstance m_list m_len m_all m_min m_max h_is_tie, F_check_ties.kp, b_check_ties, g_check_ties⟩
  have h_check_web : HasX P w K mg base _ "check_web" _ _ := ⟨_, fd_check_web, ok_check_web (P := P) (w := w) (base := base) F_check_web e_BadWeb g_BadWeb m_isinstance m_tuple m_len h_check_hands h_check_ties, F_check_web.kp, b_check_web, g_check_web⟩
  have h_is_whole : HasX P w K mg base _ "is_whole" _ _ := ⟨_, fd_is_whole, ok_is_whole (P := P) (w := w) (base := base) F_is_whole h_check_web, F_is_whole.kp, b_is_whole, g_is_whole⟩
  have h__law_refused : Has P w K mg base _ "_law_refused" _ _ := ⟨_, fd__law_refused, ok__law_refused (P := P) (w := w) (base := base) F__law_refused m_isinstance m_ValueError g_SumError g_BadWeb g_BadBooks g_NoDeed g_NoNear g_NoRow g_NoText exm ec h_check_web h_is_whole, F__law_refused.kp, b__law_refused, g__law_refused⟩
  have h__law_cell_at : Has P w K mg base _ "_law_cell_at" _ _ := ⟨_, fd__law_cell_at, ok__law_cell_at (P := P) (w := w) (base := base) F__law_cell_at m_len, F__law_cell_at.kp, b__law_cell_at, g__law_cell_at⟩
  have h__law_mixed : Has P w K mg base _ "_law_mixed" _ _ := ⟨_, fd__law_mixed, ok__law_mixed (P := P) (w := w) (base := base) F__law_mixed , F__law_mixed.kp, b__law_mixed, g__law_mixed⟩
  have h__law_well : Has P w K mg base _ "_law_well" _ _ := ⟨_, fd__law_well, ok__law_well (P := P) (w := w) (base := base) F__law_well m_int, F__law_well.kp, b__law_well, g__law_well⟩
  have h__law_draw : Has P w K mg base _ "_law_draw" _ _ := ⟨_, fd__law_draw, ok__law_draw (P := P) (w := w) (base := base) F__law_draw h__law_mixed, F__law_draw.kp, b__law_draw, g__law_draw⟩
  have h__law_pick : Has P w K mg base _ "_law_pick" _ _ := ⟨_, fd__law_pick, ok__law_pick (P := P) (w := w) (base := base) F__law_pick m_len h__law_draw, F__law_pick.kp, b__law_pick, g__law_pick⟩
  have h__law_names : Has P w K mg base _ "_law_names" _ _ := ⟨_, fd__law_names, ok__law_names (P := P) (w := w) (base := base) F__law_names m_len m_range h__law_draw, F__law_names.kp, b__law_names, g__law_names⟩
  have h__law_numbers : Has P w K mg base _ "_law_numbers" _ _ := ⟨_, fd__law_numbers, ok__law_numbers (P := P) (w := w) (base := base) F__law_numbers m_range m_tuple h__law_draw, F__law_numbers.kp, b__law_numbers, g__law_numbers⟩
  have h__law_ties : Has P w K mg base _ "_law_ties" _ _ := ⟨_, fd__law_ties, ok__law_ties (P := P) (w := w) (base := base) F__law_ties m_len m_range h__law_draw, F__law_ties.kp, b__law_ties, g__law_ties⟩
  have h__law_web : Has P w K mg base _ "_law_web" _ _ := ⟨_, fd__law_web, ok__law_web (P := P) (w := w) (base := base) F__law_web h__law_draw h__law_names h__law_numbers h__law_ties, F__law_web.kp, b__law_web, g__law_web⟩
  have h__law_odd_hand : Has P w K mg base _ "_law_odd_hand" _ _ := ⟨_, fd__law_odd_hand, ok__law_odd_hand (P := P) (w := w) (base := base) F__law_odd_hand m_len m_list h__law_draw h__law_pick, F__law_odd_hand.kp, b__law_odd_hand, g__law_odd_hand⟩
  have h__law_odd_hands : Has P w K mg base _ "_law_odd_hands" _ _ := ⟨_, fd__law_odd_hands, ok__law_odd_hands (P := P) (w := w) (base := base) F__law_odd_hands m_len m_tuple m_dict h__law_draw h__law_pick h__law_odd_hand, F__law_odd_hands.kp, b__law_odd_hands, g__law_odd_hands⟩
  have h__law_odd_ties : Has P w K mg base _ "_law_odd_ties" _ _ := ⟨_, fd__law_odd_ties, ok__law_odd_ties (P := P) (w := w) (base := base) F__law_odd_ties m_len m_list m_tuple h__law_draw h__law_pick, F__law_odd_ties.kp, b__law_odd_ties, g__law_odd_ties⟩
  have h__law_bad : Has P w K mg base _ "_law_bad" _ _ := ⟨_, fd__law_bad, ok__law_bad (P := P) (w := w) (base := base) F__law_bad m_list h__law_draw h__law_pick h__law_odd_hands h__law_odd_ties, F__law_bad.kp, b__law_bad, g__law_bad⟩
  exact ok_law (P := P) (w := w) (base := base) F_law m_range h_check_web h__law_refused h__law_cell_at h__law_well h__law_web h__law_bad
end Zl
open PySem PySem.W PySem.Calls PyProof.Rows
theorem PySem.Challenge.cw_sumtold_k13_what_is_no_web_holds : PySem.Challenge.rw_sumtold_k13_what_is_no_web.Holds := by
  w_on; o_law
  refine HandSHeadRun.head_any (r := OpenLaw.row PySem.Challenge.rw_sumtold_k13_what_is_no_web) (q := view (OpenLaw.row PySem.Challenge.rw_sumtold_k13_what_is_no_web).prog [42]) (H := Zl.hk) (ob := Zl.ob) (M := 5000) (loose := [("SumError" : PySem.Str), ("BadWeb" : PySem.Str), ("NoDeed" : PySem.Str), ("BadBooks" : PySem.Str), ("NoNear" : PySem.Str), ("NoText" : PySem.Str), ("NoRow" : PySem.Str), ("is_whole_number" : PySem.Str), ("LONGEST_NAME" : PySem.Str), ("MOST_NUMBERS" : PySem.Str), ("GREATEST_NUMBER" : PySem.Str), ("MOST_HANDS" : PySem.Str), ("is_name" : PySem.Str), ("is_own_number" : PySem.Str), ("is_numbers" : PySem.Str), ("are_unlike_names" : PySem.Str), ("is_hand" : PySem.Str), ("is_tie" : PySem.Str), ("check_hands" : PySem.Str), ("check_ties" : PySem.Str), ("check_web" : PySem.Str), ("tied_to" : PySem.Str), ("led_to" : PySem.Str), ("is_whole" : PySem.Str), ("_law_cell_at" : PySem.Str), ("_law_mixed" : PySem.Str), ("_law_well" : PySem.Str), ("_law_draw" : PySem.Str), ("_law_pick" : PySem.Str), ("_law_names" : PySem.Str), ("_law_numbers" : PySem.Str), ("_law_ties" : PySem.Str), ("_law_web" : PySem.Str), ("_law_odd_hand" : PySem.Str), ("_law_odd_hands" : PySem.Str), ("_law_odd_ties" : PySem.Str), ("_law_bad" : PySem.Str), ("_law_refused" : PySem.Str)]) (d := HandSHeadRun.topDef (OpenLaw.row PySem.Challenge.rw_sumtold_k13_what_is_no_web).prog 42) (kwd := []) Zl.ob_eq
    (by kernel_rfl) (fun s => by kernel_rfl) Zl.run (by kernel_rfl) (by kernel_rfl) (by kernel_rfl) (by rfl) (by first | assumption | decide +kernel) (by decide +kernel) ⟨rfl, rfl, rfl, rfl, rfl, by decide +kernel⟩ ?hw ?hc
  case hw => w_witness2
  case hc =>
    refine LamX.walk_ofTsE (l := PySem.Challenge.rw_sumtold_k13_what_is_no_web) (n := 63) (k := 17) (x := "_law_script") (CX := fun _ => L2.CX0) rfl (by decide) (by kernel_rfl) ⟨rfl, by decide, by decide⟩ ?F (fun _ _ _ _ _ z => z)
    intro w mg fa h Y G hmg0
    obtain ⟨K, KX, c⟩ := Y
    have hmg : mg ("law" : PySem.Str) = some (.ref fa) := by
      have e : (HandSHeadRun.topDef (OpenLaw.row PySem.Challenge.rw_sumtold_k13_what_is_no_web).prog 42).name = ("law" : PySem.Str) := by kernel_rfl
      rw [← e]
      exact hmg0
    obtain ⟨fd, hb, hF⟩ := Zl.facts (P := (PySem.Challenge.rw_sumtold_k13_what_is_no_web).prog) (w := w) KX G hmg c.t.d c.more
    have mt : ∀ d ∈ Zl.tf, He.cT K d ∈ Zl.tf.map (He.cT K) := fun d hd => List.mem_map.mpr ⟨d, hd, rfl⟩
    refine ⟨K, KX, fd, Zl.tf.map (He.cT K), Zl.spLaw K (He.cT K ("is_name", none)).2 (He.cT K ("is_numbers", none)).2 (He.cT K ("check_hands", none)).2 (He.cT K ("check_ties", none)).2, fun p hp => ?_, fun p hp => ?_, fun p hp => ?_, hb, fun H a ns hl _ hH hS => ⟨a, ns, rfl, hS, hl, ⟨#[], hH _ (mt ("is_name", none) (by simp [Zl.tf])), trivial⟩, ⟨#[], hH _ (mt ("is_numbers", none) (by simp [Zl.tf])), trivial⟩, ⟨#[], hH _ (mt ("check_hands", none) (by simp [Zl.tf])), trivial⟩, ⟨#[], hH _ (mt ("check_ties", none) (by simp [Zl.tf])), trivial⟩, fun _ => rfl⟩, fun base hK hN TB => hF base hK hN (fun p hp => TB _ (mt p hp))⟩
    · obtain ⟨d, hd, rfl⟩ := List.mem_map.mp hp
      exact c.empty d hd
    · obtain ⟨d, hd, rfl⟩ := List.mem_map.mp hp
      exact c.out d hd
    · obtain ⟨d, hd, rfl⟩ := List.mem_map.mp hp
      exact PySem.W.codeHd_of_K KX (c.hd d hd)
