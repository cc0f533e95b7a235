import PyProof.Rows.All
import Wide.All
import OpenK.AllK
import Wide.FinOn
import KE.KStateDown
import Lean
import HandS.ForMost
import HandS.Flow
import HandS.Wide
import HandS.WideBits
import HandS.IsInst
import HandS.Style
import KE.BitLaws
import HandS.TupAny
import HandS.CallLocal
import HandS.Defaults
import HandS.Head0
import HandS.Head1
import HandS.Head2
import HandS.HeadEnd
import HandS.HeadHook1
import HandS.HeadHook2
import HandS.AnyAll
import HandS.GenList
import HandS.HeadHook4
import HandS.HeadWalk
import HandS.Conv
import PyProof.ListStr
import PyProof.TupleOfGen
import HandS.Zip
import HandS.TupMul
import PyProof.P3Eq
import PyProof.StrOps2
import HandS.NoneIn
import HandS.SetBool
import HandS.SetKeys
import HandS.TupSets
import HandS.Steps
import HandS.Strs
import HandS.DictComp
import HandS.More
import PySem.Challenge.RW_sumtold_k15_whole_webs
set_option Elab.async false
set_option linter.all false
set_option maxRecDepth 100000
set_option maxHeartbeats 4000000
set_option pp.deepTerms false
set_option pp.maxSteps 400
set_option Elab.async false
set_option linter.all false
set_option maxRecDepth 100000
set_option maxHeartbeats 2000000
namespace Zk
open PySem PySem.Spec PyProof.Rows L2
/-! ## a def by its promise -/
abbrev FnP (K : PySem.W.Frag) (x : Str) (st : Stmt) (f : Addr) (fd : FuncData) : Prop := FunD K x x (defArgs st) (defBody st) (defScope st) [] [] f fd
def Has (P : Program) (w : World) (K : PySem.W.Frag) (mg : Str → Option Value) (base : Heap) (k : Nat) (x : Str) (ps : List Str) (sp : Sp) : Prop :=
  ∃ f fd, FnOk P w K mg base CX0 k f fd ps sp ∧ PySem.W.keepIn K (.ref f) = true ∧ Binds K fd ps [] ∧ mg x = some (.ref f)
theorem pe_callH {X : Cx} {k : Nat} {x : Str} {ps : List Str} {sp : Sp} {e : Expr} {es : List Expr} {t : TA} {p pos : Pos} (h : Has X.prog X.w X.K X.mg X.base k x ps sp) (hr : Room k X.A) (hg : Gl X x) (ha : PA X (e :: es) t)
    (hdb : (x == ("__debug__" : Str)) = false := by decide) (he : starEach (e :: es) X.env = (false, eval e X.env) :: starEach es X.env := by rfl) (hpl : (backTo pos (starEach es X.env)).any (·.1) = false := by rfl) :
    PE X (.Call (.Name x p) (e :: es) [] pos) (tCall sp [] E0 t) := by
  obtain ⟨f, fd, F, hk, hb, hm⟩ := h
  exact pe_call F hr hg hm hk hb .nil pass0 ha hdb he hpl
/-! ## operators for numbers of some size -/
def CMulA (i j : Int) : Prop := CMul i j ∨ CMulW i j
def CDivA (_ j : Int) : Prop := j ≠ 0 ∧ j.natAbs.log2 < 9000
section
variable {X : Cx}
theorem op_mulA : OpR X (binaryOp .Mult) (rI CMulA fun i j => .int (i * j)) := opI fun _ _ _ _ _ _ _ hc q => mul_int q (hc.elim (fun h => h.ok) (fun h => h.ok))
theorem op_fdivA : OpR X (binaryOp .FloorDiv) (rI CDivA fun i j => .int (i.fdiv j)) := opI fun _ _ _ _ _ _ _ hc q => floordiv_int hc.1 q (.inl (PyProof.noPylong_of_log2 hc.2))
theorem op_shlA : OpR X (binaryOp .LShift) (rI CShl fun i j => .int (i * 2 ^ j.toNat)) := op_shlW
theorem op_shrA : OpR X (binaryOp .RShift) (rI (fun _ j => 0 ≤ j) fun i j => .int (i / 2 ^ j.toNat)) := op_shr
end
theorem divA {i j : Int} {n : Nat} (h0 : j ≠ 0) (h : j.natAbs < 2 ^ n) (hn : 0 < n) (h9 : n ≤ 9000) : CDivA i j := ⟨h0, Nat.lt_of_lt_of_le (PySem.Flt.log2_lt_of hn h) h9⟩
theorem mulA {i j : Int} {a b : Nat} (ha : i.natAbs < 2 ^ a) (hb : j.natAbs < 2 ^ b) (h0 : 0 < a) (h1 : 0 < b) (h : a + b ≤ 1000000) : CMulA i j := .inr (wide_mul ha hb h0 h1 h)
theorem mulL {i j : Int} (h : -(2 ^ 64) < i ∧ i < 2 ^ 64) : CMulA i j := .inl (.inl h)
theorem mulR {i j : Int} (h : -(2 ^ 64) < j ∧ j < 2 ^ 64) : CMulA i j := .inl (.inr h)
/-! ## rules with the written part named -/
def rLenK (K : PySem.W.Frag) : List V → Hp → VK → Prop := fun xs H Q => ∃ x n, xs = [x] ∧ LenV K x H n ∧ Q (.int n) H
def rListK (K : PySem.W.Frag) : List V → Hp → VK → Prop := fun xs H Q => ∃ p ys, xs = [.ref p] ∧ (SqL K H p ys ∨ SqT K H p ys) ∧ ∀ l, H l = none → Q (.ref l) (upd H l (.lst ys))
def rTupleK (K : PySem.W.Frag) : List V → Hp → VK → Prop := fun xs H Q => ∃ p ys, xs = [.ref p] ∧ ((SqL K H p ys ∧ ∀ l, H l = none → Q (.ref l) (upd H l (.tup ys))) ∨ (SqT K H p ys ∧ Q (.ref p) H))
def rAbs : List V → Hp → VK → Prop := fun xs H Q => ∃ i, xs = [.int i] ∧ Q (.int (if i < 0 then -i else i)) H
def rInt1 : List V → Hp → VK → Prop := fun xs H Q => (∃ i, xs = [.int i] ∧ Q (.int i) H) ∨ ∃ k, xs = [.bl k] ∧ Q (.int (if k then 1 else 0)) H
def rMin2 : List V → Hp → VK → Prop := fun xs H Q => ∃ i j, xs = [.int i, .int j] ∧ Q (.int (if j < i then j else i)) H
def rMax2 : List V → Hp → VK → Prop := fun xs H Q => ∃ i j, xs = [.int i, .int j] ∧ Q (.int (if j > i then j else i)) H
section
variable {X : Cx}
theorem call_min2E (hc : X.calm = true) : CallR X (.builtin "min") rMin2 := call_min2 hc
theorem call_max2E (hc : X.calm = true) : CallR X (.builtin "max") rMax2 := call_max2 hc
theorem op_catE (K : PySem.W.Frag) (e : X.K = K := by rfl) : OpR X (binaryOp .Add) (rCatA K) := by rw [← e]; exact op_catA
theorem sl_tupE (K : PySem.W.Frag) (e : X.K = K := by rfl) : SlR X (rSlA K) := by rw [← e]; exact sl_tupA
theorem call_absE : CallR X (.builtin "abs") rAbs := call_abs
theorem call_intE : CallR X (.type "int") rInt1 := call_int1
theorem call_isiE (K : PySem.W.Frag) (e : X.K = K := by rfl) : CallR X (.builtin "isinstance") (rIsi K) := by rw [← e]; exact call_isi
theorem call_lenE (K : PySem.W.Frag) (e : X.K = K := by rfl) : CallR X (.builtin "len") (rLenK K) := by rw [← e]; exact call_len
theorem call_listE (K : PySem.W.Frag) (e : X.K = K := by rfl) : CallR X (.type "list") (rListK K) := by rw [← e]; exact call_list_of
theorem call_tupleE (K : PySem.W.Frag) (e : X.K = K := by rfl) : CallR X (.type "tuple") (rTupleK K) := by rw [← e]; exact call_tuple_of
theorem ix_listE (K : PySem.W.Frag) (e : X.K = K := by rfl) : IxR X (rIxL K) := by rw [← e]; exact ix_list
theorem ix_tupE (K : PySem.W.Frag) (e : X.K = K := by rfl) : IxR X (rIxT K) := by rw [← e]; exact ix_tup
theorem sl_listE (K : PySem.W.Frag) (e : X.K = K := by rfl) : SlR X (rSlL K) := by rw [← e]; exact sl_list
theorem op_inE (K : PySem.W.Frag) (e : X.K = K := by rfl) : OpR X (compareOp .In) (rIn K false) := by rw [← e]; exact op_in_seq
theorem op_notInE (K : PySem.W.Frag) (e : X.K = K := by rfl) : OpR X (compareOp .NotIn) (rIn K true) := by rw [← e]; exact op_notIn_seq
theorem op_eqDE (K : PySem.W.Frag) (hu : X.A.units + 64 < cLine) (e : X.K = K := by rfl) : OpR X (compareOp .Eq) (rEqD K) := by rw [← e]; exact op_eqD hu
theorem op_neDE (K : PySem.W.Frag) (hu : X.A.units + 64 < cLine) (e : X.K = K := by rfl) : OpR X (compareOp .NotEq) (rNeD K) := by rw [← e]; exact op_neD hu
theorem pi_listE (K : PySem.W.Frag) {tg l : Expr} {tl : TE} (hl : PE X l tl) (e : X.K = K := by rfl) : PI X tg l (iList K tl) := by rw [← e]; exact pi_list hl
theorem pi_tupE (K : PySem.W.Frag) {tg l : Expr} {tl : TE} (hl : PE X l tl) (e : X.K = K := by rfl) : PI X tg l (iTup K tl) := by rw [← e]; exact pi_tup hl
theorem pe_orTE (K : PySem.W.Frag) {a b : Expr} {ta tb : TE} {rest : List Expr} {pos : Pos} (ha : PE X a ta) (hb : PE X (.BoolOp .Or (b :: rest) pos) tb) (e : X.K = K := by rfl) : PE X (.BoolOp .Or (a :: b :: rest) pos) (tOrT K ta tb) := by rw [← e]; exact pe_orT ha hb
end
/-! ## the reading, step by step -/
def NewO (o : List V → HO) (xs : List V) (H : Hp) (Q : VK) : Prop := xs.length ≤ sizeLine ∧ ∀ p, H p = none → Q (.ref p) (upd H p (o xs))
section
variable {σ : L2.St} {H : Hp} {Q : VK} {v x y : V} {i : Nat} {ta tb te : TE} {D : Ends} {t u : TS} {c c' : TT} {a b : Int} {K : PySem.W.Frag} {p : Addr} {xs ys : List V}
theorem z_var (h : σ[i]? = some (some v)) (q : Q v H) : tVar i σ H Q := ⟨v, h, q⟩
theorem z_c (q : Q v H) : tC v σ H Q := q
theorem z_op {r : R2} (q : ta σ H fun x H1 => tb σ H1 fun y H2 => r x y H2 Q) : tOp r ta tb σ H Q := q
theorem z_un {r : V → Hp → VK → Prop} (q : ta σ H fun x H1 => r x H1 Q) : tUn r ta σ H Q := q
theorem z_I0 {g : Int → Int → V} (q : Q (g a b) H) : rI0 g (.int a) (.int b) H Q := ⟨a, b, rfl, rfl, q⟩
theorem z_I {C : Int → Int → Prop} {g : Int → Int → V} (hc : C a b) (q : Q (g a b) H) : rI C g (.int a) (.int b) H Q := ⟨a, b, rfl, rfl, hc, q⟩
theorem z_U {g : Int → V} (q : Q (g a) H) : rU g (.int a) H Q := ⟨a, rfl, q⟩
theorem z_eqI (q : Q (.bl (decide (a = b))) H) : rEq (.int a) (.int b) H Q := ⟨rfl, by
  have e : decide (V.int a = V.int b) = decide (a = b) := by
    by_cases h : a = b
    · rw [h, decide_eq_true rfl, decide_eq_true rfl]
    · rw [decide_eq_false h, decide_eq_false (fun z => h (V.int.inj z))]
  rw [e]
  exact q⟩
theorem z_neI (q : Q (.bl (!decide (a = b))) H) : rNe (.int a) (.int b) H Q := ⟨rfl, by
  have e : decide (V.int a = V.int b) = decide (a = b) := by
    by_cases h : a = b
    · rw [h, decide_eq_true rfl, decide_eq_true rfl]
    · rw [decide_eq_false h, decide_eq_false (fun z => h (V.int.inj z))]
  rw [e]
  exact q⟩
theorem z_eqB {k l : Bool} (q : Q (.bl (decide (k = l))) H) : rEq (.bl k) (.bl l) H Q := ⟨rfl, by
  have e : decide (V.bl k = V.bl l) = decide (k = l) := by
    cases k <;> cases l <;> rfl
  rw [e]
  exact q⟩
theorem z_neB {k l : Bool} (q : Q (.bl (!decide (k = l))) H) : rNe (.bl k) (.bl l) H Q := ⟨rfl, by
  have e : decide (V.bl k = V.bl l) = decide (k = l) := by
    cases k <;> cases l <;> rfl
  rw [e]
  exact q⟩
theorem z_isB {k l : Bool} (q : Q (.bl (decide (k = l))) H) : rIsB (.bl k) (.bl l) H Q := ⟨k, l, rfl, rfl, q⟩
theorem z_notB {k l : Bool} (q : Q (.bl (!decide (k = l))) H) : rNotB (.bl k) (.bl l) H Q := ⟨k, l, rfl, rfl, q⟩
theorem z_ixL (h : SqL K H p xs) (e : atI xs a = some v) (q : Q v H) : rIxL K (.ref p) (.int a) H Q := ⟨p, xs, a, v, rfl, rfl, h, e, q⟩
theorem z_ixT (h : SqT K H p xs) (e : atI xs a = some v) (q : Q v H) : rIxT K (.ref p) (.int a) H Q := ⟨p, xs, a, v, rfl, rfl, h, e, q⟩
theorem z_nil {Q : List V → Hp → Prop} (q : Q [] H) : tNil σ H Q := q
theorem z_cons {tr : TA} {Q : List V → Hp → Prop} (q : ta σ H fun x H1 => tr σ H1 fun xs H2 => Q (x :: xs) H2) : tCons ta tr σ H Q := q
theorem z_tup {tr : TA} (q : tr σ H fun xs H1 => NewO HO.tup xs H1 Q) : tTup tr σ H Q := q
theorem z_lst {tr : TA} (q : tr σ H fun xs H1 => NewO HO.lst xs H1 Q) : tLst tr σ H Q := q
theorem z_call {sp : Sp} {dvs : List V} {E : XK} {tr : TA} (q : tr σ H fun vs H1 => sp (vs ++ dvs) H1 Q E) : tCall sp dvs E tr σ H Q := q
theorem z_cb {r : List V → Hp → VK → Prop} {tr : TA} (q : tr σ H fun vs H1 => r vs H1 Q) : tCB r tr σ H Q := q
theorem z_andV (q : ta σ H fun x H1 => ∃ c, x = .bl c ∧ if c = true then tb σ H1 Q else Q (.bl false) H1) : tAndV ta tb σ H Q := q
theorem z_orV (q : ta σ H fun x H1 => ∃ c, x = .bl c ∧ if c = true then Q (.bl true) H1 else tb σ H1 Q) : tOrV ta tb σ H Q := q
theorem z_notV (q : ta σ H fun x H1 => ∃ c, x = .bl c ∧ Q (.bl (!c)) H1) : tNotV ta σ H Q := q
theorem z_orTi (q : if a = 0 then tb σ H Q else Q (.int a) H) : (∃ k, TruV K (.int a) H k ∧ if k = true then Q (.int a) H else tb σ H Q) := by
  refine ⟨a != 0, rfl, ?_⟩
  by_cases h : a = 0
  · rw [if_pos h] at q
    rw [h]
    exact iteF q
  · rw [if_neg h] at q
    have e : (a != 0) = true := by simpa using h
    rw [e]
    exact iteT q
/-- x or y: what stands behind is shown once -/
theorem z_orCut (Pv : Int → Hp → Prop) (ha : a ≠ 0 → Pv a H) (hQ : ∀ m H', Pv m H' → Q (.int m) H') (hb : a = 0 → ∀ Q' : VK, (∀ m H', Pv m H' → Q' (.int m) H') → tb σ H Q') : (∃ k, TruV K (.int a) H k ∧ if k = true then Q (.int a) H else tb σ H Q) := by
  refine z_orTi ?_
  by_cases h : a = 0
  · rw [if_pos h]
    exact hb h Q hQ
  · rw [if_neg h]
    exact hQ _ _ (ha h)
theorem z_orT (q : ta σ H fun x H1 => ∃ k, TruV K x H1 k ∧ if k = true then Q x H1 else tb σ H1 Q) : tOrT K ta tb σ H Q := q
theorem z_ebl {k : Bool} {P : Bool → Prop} (q : P k) : ∃ c, V.bl k = V.bl c ∧ P c := ⟨k, rfl, q⟩
theorem z_eint {P : Int → Prop} (q : P a) : ∃ c, V.int a = V.int c ∧ P c := ⟨a, rfl, q⟩
theorem z_test {Q : Bool → Hp → Prop} (q : te σ H fun x H' => ∃ k, x = .bl k ∧ Q k H') : tTest te σ H Q := q
theorem z_B {Q : Bool → Hp → Prop} (q : te σ H fun x H' => ∃ k, x = .bl k ∧ Q k H') : tB te σ H Q := q
theorem z_and {Q : Bool → Hp → Prop} (q : c σ H fun k H1 => if k = true then c' σ H1 Q else Q false H1) : tAnd c c' σ H Q := q
theorem z_or {Q : Bool → Hp → Prop} (q : c σ H fun k H1 => if k = true then Q true H1 else c' σ H1 Q) : tOr c c' σ H Q := q
theorem z_not {Q : Bool → Hp → Prop} (q : c σ H fun k H1 => Q (!k) H1) : tNot c σ H Q := q
theorem z_yes {Q : Bool → Hp → Prop} (q : Q true H) : tYes σ H Q := q
theorem z_seq (q : t { D with nx := u D } σ H) : tSeq t u D σ H := q
theorem z_next (q : D.nx σ H) : tNext D σ H := q
theorem z_asg {g : TG} (q : te σ H fun x H1 => g x σ H1 D.nx) : tAsg te g D σ H := q
theorem z_name {Q : L2.St → Hp → Prop} (q : Q (σ.set i (some v)) H) : gName i v σ H Q := q
theorem z_ret (q : te σ H D.rt) : tRet te D σ H := q
theorem z_retN (q : D.rt .non H) : tRetN D σ H := q
theorem z_drop (q : te σ H fun _ H1 => D.nx σ H1) : tDrop te D σ H := q
theorem z_if (q : c σ H fun k H1 => if k = true then t D σ H1 else u D σ H1) : tIfS c t u D σ H := q
theorem z_par {j : Nat} {tr : TA} (q : tr σ H fun vs H1 => ∃ v w, vs = [v, w] ∧ D.nx ((σ.set i (some v)).set j (some w)) H1) : tPar i j tr D σ H := q
theorem z_par2 {w : V} {P : V → V → Prop} (q : P v w) : ∃ v' w', [v, w] = [v', w'] ∧ P v' w' := ⟨v, w, rfl, q⟩
theorem z_gTup {n : Nat} {g : TGs} {Q : L2.St → Hp → Prop} (h : SqT K H p xs) (hl : xs.length = n) (q : g xs σ H Q) : gTup K n g (.ref p) σ H Q := ⟨p, xs, rfl, h, hl, q⟩
theorem z_gCons {g : TG} {gs : TGs} {Q : L2.St → Hp → Prop} (q : g v σ H fun σ' H' => gs xs σ' H' Q) : gCons g gs (v :: xs) σ H Q := ⟨v, xs, rfl, q⟩
theorem z_gNil {Q : L2.St → Hp → Prop} (q : Q σ H) : gNil [] σ H Q := ⟨rfl, q⟩
theorem z_gSub {to ti : TE} {ts : TSet} {Q : L2.St → Hp → Prop} (q : to σ H fun o H1 => ti σ H1 fun i H2 => ts o i v H2 fun H3 => Q σ H3) : gSub to ti ts v σ H Q := q
theorem z_setL {j : Nat} {Q : Hp → Prop} (h : H p = some (.lst xs)) (e : ixN xs.length a = some j) (q : Q (upd H p (.lst (xs.set j v)))) : rSetL (.ref p) (.int a) v H Q := ⟨p, xs, a, j, rfl, rfl, h, e, q⟩
theorem z_isi {n s : String} {k : Bool} (hx : TyX K H x (.type n)) (hk : kitB n s = some k) (q : Q (.bl k) H) : rIsi K [x, .ty s] H Q := ⟨x, .ty s, .type n, .type s, k, rfl, .ty s, hx, kit_ty hk, q⟩
theorem z_new {o : List V → HO} (hl : xs.length ≤ 1000) (q : ∀ p H', H p = none → Same H H' → H' p = some (o xs) → Q (.ref p) H') : NewO o xs H Q :=
  ⟨Nat.le_of_lt (small1000 hl), fun p hp => q p _ hp (fun b u e => by rw [upd_ne (ne_of_none e hp)]; exact e) upd_same⟩
theorem z_lenT (h : H p = some (.tup xs)) (q : Q (.int xs.length) H) : rLenK K [.ref p] H Q := ⟨_, xs.length, rfl, .inr ⟨xs, SqT.of h, rfl⟩, q⟩
theorem z_lenL (h : SqL K H p xs) (q : Q (.int xs.length) H) : rLenK K [.ref p] H Q := ⟨_, xs.length, rfl, .inl ⟨xs, h, rfl⟩, q⟩
theorem z_slL {lo hi : Option Int} (h : SqL K H p xs) (q : ∀ p' H', H p' = none → Same H H' → H' p' = some (.lst (cutV xs lo hi)) → Q (.ref p') H') : rSlL K (.ref p) lo hi H Q :=
  ⟨p, xs, rfl, h, fun p' hp => q p' _ hp (fun b u e => by rw [upd_ne (ne_of_none e hp)]; exact e) upd_same⟩
theorem z_cat {l l' : Addr} (h : H l = some (.lst xs)) (h' : H l' = some (.lst ys)) (hl : xs.length + ys.length ≤ 1000) (q : ∀ p' H', H p' = none → Same H H' → H' p' = some (.lst (xs ++ ys)) → Q (.ref p') H') : rCat (.ref l) (.ref l') H Q :=
  ⟨l, l', xs, ys, rfl, rfl, h, h', Nat.le_of_lt (small1000 hl), fun p' hp => q p' _ hp (fun b u e => by rw [upd_ne (ne_of_none e hp)]; exact e) upd_same⟩
theorem z_catT {l l' : Addr} (h : H l = some (.tup xs)) (h' : H l' = some (.tup ys)) (hl : xs.length + ys.length ≤ 1000) (q : ∀ p' H', Same H H' → H' p' = some (.tup (xs ++ ys)) → Q (.ref p') H') : rCatA K (.ref l) (.ref l') H Q :=
  ⟨l, l', xs, ys, rfl, rfl, SqT.of h, SqT.of h', Nat.le_of_lt (small1000 hl), fun e => q l' H (Same.refl H) (by rw [e]; exact h'), fun _ e => q l H (Same.refl H) (by rw [e, List.append_nil]; exact h), fun _ _ p' hp => q p' _ (fun b u e => by rw [upd_ne (ne_of_none e hp)]; exact e) upd_same⟩
theorem cutV_whole {xs : List V} {lo hi : Option Int} (h : HT.sIx xs.length 0 lo = 0 ∧ HT.sIx xs.length xs.length hi = xs.length) : cutV xs lo hi = xs := by
  unfold cutV
  rw [h.1, h.2]
  simp
theorem z_slT {lo hi : Option Int} (h : H p = some (.tup xs)) (q : ∀ p' H', Same H H' → H' p' = some (.tup (cutV xs lo hi)) → Q (.ref p') H') : rSlA K (.ref p) lo hi H Q :=
  ⟨p, xs, rfl, SqT.of h, fun e => q p H (Same.refl H) (by rw [cutV_whole e]; exact h), fun _ p' hp => q p' _ (fun b u e => by rw [upd_ne (ne_of_none e hp)]; exact e) upd_same⟩
theorem z_dnew (q : ∀ p H', H p = none → Same H H' → H' p = some (.dK []) → Q (.ref p) H') : tDNewK σ H Q := fun p hp => q p _ hp (fun b u e => by rw [upd_ne (ne_of_none e hp)]; exact e) upd_same
theorem z_listT (h : H p = some (.tup xs)) (q : ∀ p' H', H p' = none → Same H H' → H' p' = some (.lst xs) → Q (.ref p') H') : rListK K [.ref p] H Q := ⟨p, xs, rfl, .inr (SqT.of h), fun p' hp => q p' _ hp (fun b u e => by rw [upd_ne (ne_of_none e hp)]; exact e) upd_same⟩
theorem z_eqD {d e : PyData} {k : Bool} (h : Dp K H x d) (h' : Dp K H y e) (s : SeqAt.shaped d = true) (s' : SeqAt.shaped e = true) (hk : PyData.eqv d e = k) (q : Q (.bl k) H) : rEqD K x y H Q := ⟨d, e, h, h', s, s', by rw [hk]; exact q⟩
theorem z_neD {d e : PyData} {k : Bool} (h : Dp K H x d) (h' : Dp K H y e) (s : SeqAt.shaped d = true) (s' : SeqAt.shaped e = true) (hk : PyData.eqv d e = k) (q : Q (.bl (!k)) H) : rNeD K x y H Q := ⟨d, e, h, h', s, s', by rw [hk]; exact q⟩
theorem z_min2 {m n : Nat} (q : Q (.int ((min m n : Nat) : Int)) H) : rMin2 [.int (m : Int), .int (n : Int)] H Q := ⟨m, n, rfl, by
  have e : (if (n : Int) < (m : Int) then (n : Int) else (m : Int)) = ((min m n : Nat) : Int) := by split <;> omega
  rw [e]
  exact q⟩
theorem z_max2 {m n : Nat} (q : Q (.int ((max m n : Nat) : Int)) H) : rMax2 [.int (m : Int), .int (n : Int)] H Q := ⟨m, n, rfl, by
  have e : (if (n : Int) > (m : Int) then (n : Int) else (m : Int)) = ((max m n : Nat) : Int) := by split <;> omega
  rw [e]
  exact q⟩
theorem z_intB {k : Bool} (q : Q (.int (if k then 1 else 0)) H) : rInt1 [.bl k] H Q := .inr ⟨k, rfl, q⟩
theorem z_abs (q : Q (.int (a.natAbs : Int)) H) : rAbs [.int a] H Q := ⟨a, rfl, by
  have e : (if a < 0 then -a else a) = (a.natAbs : Int) := by split <;> omega
  rw [e]
  exact q⟩
theorem z_pow (h : CPow a b) (q : Q (.int (a ^ b.toNat)) H) : rI CPow (fun i j => .int (i ^ j.toNat)) (.int a) (.int b) H Q := ⟨a, b, rfl, rfl, h, q⟩
theorem z_modN (h : b ≠ 0) (q : Q (.int (a.fmod b)) H) : rI (fun _ j => j ≠ 0) (fun i j => .int (i.fmod j)) (.int a) (.int b) H Q := ⟨a, b, rfl, rfl, h, q⟩
theorem z_mulA (h : CMulA a b) (q : Q (.int (a * b)) H) : rI CMulA (fun i j => .int (i * j)) (.int a) (.int b) H Q := ⟨a, b, rfl, rfl, h, q⟩
theorem z_fdivA (h : CDivA a b) (q : Q (.int (a.fdiv b)) H) : rI CDivA (fun i j => .int (i.fdiv j)) (.int a) (.int b) H Q := ⟨a, b, rfl, rfl, h, q⟩
theorem z_shlA (h : CShl a b) (q : Q (.int (a * 2 ^ b.toNat)) H) : rI CShl (fun i j => .int (i * 2 ^ j.toNat)) (.int a) (.int b) H Q := ⟨a, b, rfl, rfl, h, q⟩
theorem z_shrA (h : 0 ≤ b) (q : Q (.int (a / 2 ^ b.toNat)) H) : rI (fun _ j => 0 ≤ j) (fun i j => .int (i / 2 ^ j.toNat)) (.int a) (.int b) H Q := ⟨a, b, rfl, rfl, h, q⟩
theorem z_for {wi : TI} {g : TG} {tb : TS} (q : wi σ H fun J H1 => ∃ W : Nat → Nat → L2.St → Hp → Prop, (∃ m, W 0 m σ H1) ∧ ∀ i m σ H, W i m σ H →
  (J.stop i H ∧ D.nx σ H) ∨ (J.go i H ∧ ∃ N : L2.St → Hp → Prop, (∀ σ' H', N σ' H' → ∃ m', m' < m ∧ W (i + 1) m' σ' H') ∧ ∀ x H', J.yld i H x H' → g x σ H' fun σ2 H2 => tb { D with nx := N, ct := N, bk := D.nx } σ2 H2)) : tFor wi g tb D σ H := q
theorem z_rng1 {tr : TA} {R : It → Hp → Prop} (q : tr σ H fun vs H1 => ∃ j : Int, vs = [.int j] ∧ -(2 ^ 62) ≤ j ∧ j < 2 ^ 62 ∧ R (Itr 0 j.toNat) H1) : iRng1 tr σ H R := q
theorem z_iL {R : It → Hp → Prop} (q : te σ H fun x H1 => ∃ a, x = .ref a ∧ (∃ xs, SqL K H1 a xs) ∧ R (Itl K a) H1) : iList K te σ H R := q
theorem z_iT {R : It → Hp → Prop} (q : te σ H fun x H1 => ∃ a, x = .ref a ∧ (∃ xs, SqT K H1 a xs) ∧ R (Itt K a) H1) : iTup K te σ H R := q
theorem z_bm {T : String} {r : V → List V → Hp → VK → Prop} {to : TE} {tr : TA} (q : to σ H fun x H1 => tyV K T x H1 ∧ tr σ H1 fun xs H2 => r x xs H2 Q) : tBM K T r to tr σ H Q := q
theorem z_bits (q : te σ H fun x H1 => ∃ i, x = .int i ∧ Q (.int (Builtin.Int.intBits i : Nat)) H1) : tBits te σ H Q := q
theorem z_sl {r : V → Option Int → Option Int → Hp → VK → Prop} {tl th : TO} (q : te σ H fun x H1 => tl σ H1 fun l H2 => th σ H2 fun u H3 => r x l u H3 Q) : tSl r te tl th σ H Q := q
theorem z_noPart {Q : Option Int → Hp → Prop} (q : Q none H) : tNoPart σ H Q := q
theorem z_part {Q : Option Int → Hp → Prop} (q : te σ H fun x H1 => ∃ i, x = .int i ∧ Q (some i) H1) : tPart te σ H Q := q
theorem z_chain {r r' : R2} {tc : TE} (q : ta σ H fun x H1 => tb σ H1 fun y H2 => r x y H2 fun z H3 => ∃ k, z = .bl k ∧ (if k = true then tc σ H3 fun w' H4 => r' y w' H4 Q else Q (.bl false) H3)) : tChain r r' ta tb tc σ H Q := q
theorem z_itT {k : Bool} {A B : Prop} (e : k = true) (q : A) : if k = true then A else B := by rw [if_pos e]; exact q
theorem z_itF {k : Bool} {A B : Prop} (e : k = false) (q : B) : if k = true then A else B := by rw [e]; exact iteF q
/-- what stands behind is shown once -/
theorem cutT {σ : L2.St} {H : Hp} {t : TT} {Q : Bool → Hp → Prop} (Pv : Bool → Hp → Prop) (h : ∀ Q' : Bool → Hp → Prop, (∀ k H', Pv k H' → Q' k H') → t σ H Q') (hQ : ∀ k H', Pv k H' → Q k H') : t σ H Q := h Q hQ
theorem cutE {σ : L2.St} {H : Hp} {t : TE} {Q : VK} (Pv : V → Hp → Prop) (h : ∀ Q' : VK, (∀ k H', Pv k H' → Q' k H') → t σ H Q') (hQ : ∀ k H', Pv k H' → Q k H') : t σ H Q := h Q hQ
theorem cutSt {σ : L2.St} {H : Hp} {t : TS} {D : Ends} (Pv : L2.St → Hp → Prop) (h : ∀ D' : Ends, (∀ σ' H', Pv σ' H' → D'.nx σ' H') → D'.rt = D.rt → D'.bk = D.bk → D'.ct = D.ct → t D' σ H) (hQ : ∀ σ' H', Pv σ' H' → D.nx σ' H') : t D σ H := h D hQ rfl rfl rfl
theorem sz {n : Nat} (h : n ≤ 1000) : n ≤ sizeLine := Nat.le_of_lt (small1000 h)
theorem z_ite {P : Prop} {A B : Prop} [Decidable P] (h1 : P → A) (h2 : ¬ P → B) : if decide P = true then A else B := by
  by_cases h : P
  · rw [decide_eq_true h]
    exact iteT (h1 h)
  · rw [decide_eq_false h]
    exact iteF (h2 h)
theorem z_nite {P : Prop} {A B : Prop} [Decidable P] (h1 : ¬ P → A) (h2 : P → B) : if (!decide P) = true then A else B := by
  by_cases h : P
  · rw [decide_eq_true h]
    exact iteF (h2 h)
  · rw [decide_eq_false h]
    exact iteT (h1 h)
end
/-! ## the source of draws: a list of three ints; all else stays -/
def Src (H : Hp) (s : Addr) : Prop := ∃ a b c : Int, H s = some (.lst [.int a, .int b, .int c])
structure Dr (s : Addr) (H H' : Hp) : Prop where
  keep : ∀ a o, a ≠ s → H a = some o → H' a = some o
  src : Src H' s
  src0 : Src H s
theorem Dr.trans {s : Addr} {H H1 H2 : Hp} (a : Dr s H H1) (b : Dr s H1 H2) : Dr s H H2 := ⟨fun x o n h => b.keep x o n (a.keep x o n h), b.src, a.src0⟩
theorem Dr.refl {s : Addr} {H : Hp} (h : Src H s) : Dr s H H := ⟨fun _ _ _ h => h, h, h⟩
theorem Src.same {s : Addr} {H H' : Hp} (h : Src H s) (e : Same H H') : Src H' s := by
  obtain ⟨a, b, c, h⟩ := h
  exact ⟨a, b, c, e _ _ h⟩
theorem Src.ne {s p : Addr} {H : Hp} (h : Src H s) (n : H p = none) : p ≠ s := by
  obtain ⟨a, b, c, h⟩ := h
  intro z
  rw [z, h] at n
  cases n
theorem Dr.of_same {s : Addr} {H H' : Hp} (h : Src H s) (e : Same H H') : Dr s H H' := ⟨fun a o _ h => e a o h, h.same e, h⟩
theorem Dr.tup {s a : Addr} {H H' : Hp} {xs : List V} (d : Dr s H H') (ht : H a = some (.tup xs)) : H' a = some (.tup xs) := by
  obtain ⟨x, y, z, h⟩ := d.src0
  exact d.keep a _ (ne_of ht h (by intro q; cases q)) ht
theorem Dr.frz {s a : Addr} {H H' : Hp} {o : Obj} {u : HO} (d : Dr s H H') (ht : H a = some (.frz o u)) : H' a = some (.frz o u) := by
  obtain ⟨x, y, z, h⟩ := d.src0
  exact d.keep a _ (ne_of ht h (by intro q; cases q)) ht
theorem same_get {H H' : Hp} {a : Addr} {o : HO} (e : Same H H') (h : H a = some o) : H' a = some o := e a o h
theorem dpPair {K : PySem.W.Frag} {H : Hp} {p : Addr} {x y : Int} (h : H p = some (.tup [.int x, .int y])) : Dp K H (.ref p) (.tuple [.int x, .int y]) := .tup (SqT.of h) (.cons (.int x) (.cons (.int y) .nil))
theorem shPair (x y : Int) : SeqAt.shaped (.tuple [.int x, .int y]) = true := rfl
theorem eqvPair (x y x' y' : Int) : PyData.eqv (.tuple [.int x, .int y]) (.tuple [.int x', .int y']) = (decide (x = x') && decide (y = y')) := by
  by_cases h : x = x' <;> by_cases h' : y = y' <;> simp [PyData.eqv, PyData.eqvAll, h, h']
theorem eqvPair_of {x y x' y' : Int} (h : x = x') (h' : y = y') : PyData.eqv (.tuple [.int x, .int y]) (.tuple [.int x', .int y']) = true := by
  rw [eqvPair, decide_eq_true h, decide_eq_true h']
  rfl
theorem bool_bl {k l : Bool} (e : k = l) {Q : VK} {H : Hp} (q : Q (.bl l) H) : Q (.bl k) H := by rw [e]; exact q
end Zk
set_option Elab.async false
set_option linter.all false
set_option maxRecDepth 100000
set_option maxHeartbeats 2000000
namespace Zk
open PySem PySem.Spec PyProof.Rows L2
/-! ## pairs: the mathematics -/
def dvs (n d : Int) : Int := if d < 0 then -(Nat.gcd n.natAbs d.natAbs : Int) else (Nat.gcd n.natAbs d.natAbs : Int)
def pn (n d : Int) : Int := n.fdiv (dvs n d)
def pd (n d : Int) : Int := d.fdiv (dvs n d)
theorem gcd_pos {n d : Int} (h : d ≠ 0) : 0 < Nat.gcd n.natAbs d.natAbs := Nat.gcd_pos_of_pos_right _ (by omega)
theorem dvs_ne {n d : Int} (h : d ≠ 0) : dvs n d ≠ 0 := by
  have := gcd_pos (n := n) h
  unfold dvs
  split <;> omega
theorem dvs_abs (n d : Int) : (dvs n d).natAbs = Nat.gcd n.natAbs d.natAbs := by
  unfold dvs
  split <;> omega
theorem dvs_l (n d : Int) : dvs n d ∣ n := by
  rw [← Int.natAbs_dvd_natAbs, dvs_abs]
  exact Nat.gcd_dvd_left _ _
theorem dvs_r (n d : Int) : dvs n d ∣ d := by
  rw [← Int.natAbs_dvd_natAbs, dvs_abs]
  exact Nat.gcd_dvd_right _ _
theorem pn_mul (n d : Int) : pn n d * dvs n d = n := Int.fdiv_mul_cancel (dvs_l n d)
theorem pd_mul (n d : Int) : pd n d * dvs n d = d := Int.fdiv_mul_cancel (dvs_r n d)
theorem pn_abs (n d : Int) : (pn n d).natAbs * Nat.gcd n.natAbs d.natAbs = n.natAbs := by
  have h := congrArg Int.natAbs (pn_mul n d)
  rw [Int.natAbs_mul, dvs_abs] at h
  exact h
theorem pd_abs (n d : Int) : (pd n d).natAbs * Nat.gcd n.natAbs d.natAbs = d.natAbs := by
  have h := congrArg Int.natAbs (pd_mul n d)
  rw [Int.natAbs_mul, dvs_abs] at h
  exact h
theorem pd_pos {n d : Int} (h : d ≠ 0) : 0 < pd n d := by
  have e := pd_mul n d
  have g := gcd_pos (n := n) h
  unfold dvs at e
  by_cases hd : d < 0
  · rw [if_pos hd] at e
    rcases (show 0 < pd n d ∨ pd n d ≤ 0 by omega) with q | q
    · exact q
    · exfalso
      have : 0 ≤ pd n d * -(Nat.gcd n.natAbs d.natAbs : Int) := Int.mul_nonneg_of_nonpos_of_nonpos q (by omega)
      omega
  · rw [if_neg hd] at e
    rcases (show 0 < pd n d ∨ pd n d ≤ 0 by omega) with q | q
    · exact q
    · exfalso
      have : pd n d * (Nat.gcd n.natAbs d.natAbs : Int) ≤ 0 := Int.mul_nonpos_of_nonpos_of_nonneg q (by omega)
      omega
theorem pr_cross (n d : Int) : pn n d * d = n * pd n d := by
  have e1 := pn_mul n d
  have e2 := pd_mul n d
  calc pn n d * d = pn n d * (pd n d * dvs n d) := by rw [e2]
    _ = (pn n d * dvs n d) * pd n d := by rw [Int.mul_comm (pd n d), Int.mul_assoc]
    _ = n * pd n d := by rw [e1]
theorem pr_gcd {n d : Int} (h : d ≠ 0) : Nat.gcd (pn n d).natAbs (pd n d).natAbs = 1 := by
  have g := gcd_pos (n := n) h
  have e := Nat.gcd_mul_right (pn n d).natAbs (Nat.gcd n.natAbs d.natAbs) (pd n d).natAbs
  rw [pn_abs, pd_abs] at e
  exact Nat.eq_of_mul_eq_mul_right g (by omega)
theorem pn_le {n d : Int} (h : d ≠ 0) : (pn n d).natAbs ≤ n.natAbs := by
  have g := gcd_pos (n := n) h
  have e := pn_abs n d
  have : (pn n d).natAbs * 1 ≤ (pn n d).natAbs * Nat.gcd n.natAbs d.natAbs := Nat.mul_le_mul_left _ g
  omega
theorem pd_le {n d : Int} (h : d ≠ 0) : (pd n d).natAbs ≤ d.natAbs := by
  have g := gcd_pos (n := n) h
  have e := pd_abs n d
  have : (pd n d).natAbs * 1 ≤ (pd n d).natAbs * Nat.gcd n.natAbs d.natAbs := Nat.mul_le_mul_left _ g
  omega
/-- a pair in lowest terms -/
structure Low (x y : Int) : Prop where
  pos : 0 < y
  one : Nat.gcd x.natAbs y.natAbs = 1
theorem low_pair {n d : Int} (h : d ≠ 0) : Low (pn n d) (pd n d) := ⟨pd_pos h, pr_gcd h⟩
theorem low_eq {x y x' y' : Int} (h : Low x y) (h' : Low x' y') (e : x * y' = x' * y) : x = x' ∧ y = y' := by
  have ea := congrArg Int.natAbs e
  rw [Int.natAbs_mul, Int.natAbs_mul] at ea
  have d1 : y.natAbs ∣ y'.natAbs := by
    refine Nat.Coprime.dvd_of_dvd_mul_left (k := y.natAbs) (m := x.natAbs) (n := y'.natAbs) ?_ ?_
    · rw [Nat.Coprime, Nat.gcd_comm]
      exact h.one
    · exact ⟨x'.natAbs, by rw [ea, Nat.mul_comm]⟩
  have d2 : y'.natAbs ∣ y.natAbs := by
    refine Nat.Coprime.dvd_of_dvd_mul_left (k := y'.natAbs) (m := x'.natAbs) (n := y.natAbs) ?_ ?_
    · rw [Nat.Coprime, Nat.gcd_comm]
      exact h'.one
    · exact ⟨x.natAbs, by rw [← ea, Nat.mul_comm]⟩
  have ey := Nat.dvd_antisymm d1 d2
  have p1 := h.pos
  have p2 := h'.pos
  have ey2 : y = y' := by omega
  refine ⟨?_, ey2⟩
  rw [← ey2] at e
  exact Int.eq_of_mul_eq_mul_right (by omega) e
/-- a pair is told by its worth -/
theorem pair_eq {n d n' d' : Int} (h : d ≠ 0) (h' : d' ≠ 0) (e : n * d' = n' * d) : pn n d = pn n' d' ∧ pd n d = pd n' d' := by
  refine low_eq (low_pair h) (low_pair h') ?_
  have c1 := pr_cross n d
  have c2 := pr_cross n' d'
  have e2 : (pn n d * pd n' d') * (d * d') = (pn n' d' * pd n d) * (d * d') := by
    calc (pn n d * pd n' d') * (d * d') = (pn n d * d) * (d' * pd n' d') := by
          rw [Int.mul_comm d' (pd n' d'), Int.mul_assoc, Int.mul_assoc, ← Int.mul_assoc (pd n' d') d d', Int.mul_comm (pd n' d') d, Int.mul_assoc]
      _ = (n * pd n d) * (d' * pd n' d') := by rw [c1]
      _ = (n * d') * (pd n d * pd n' d') := by
          rw [Int.mul_assoc, Int.mul_assoc, ← Int.mul_assoc (pd n d) d', Int.mul_comm (pd n d) d', Int.mul_assoc]
      _ = (n' * d) * (pd n d * pd n' d') := by rw [e]
      _ = (n' * pd n' d') * (d * pd n d) := by
          rw [Int.mul_assoc, Int.mul_assoc, Int.mul_comm (pd n d) (pd n' d'), ← Int.mul_assoc d, Int.mul_comm d (pd n' d'), Int.mul_assoc]
      _ = (pn n' d' * d') * (d * pd n d) := by rw [c2]
      _ = (pn n' d' * pd n d) * (d * d') := by
          rw [Int.mul_assoc, Int.mul_assoc, Int.mul_comm d (pd n d), ← Int.mul_assoc d', Int.mul_comm d' (pd n d), Int.mul_assoc, Int.mul_comm d' d]
  exact Int.eq_of_mul_eq_mul_right (by
    intro z
    rcases Int.mul_eq_zero.mp z with q | q
    · exact h q
    · exact h' q) e2
/-- of a pair in lowest terms pair tells itself -/
theorem pair_self {x y : Int} (h : Low x y) : pn x y = x ∧ pd x y = y :=
  low_eq (low_pair (by have := h.pos; omega)) h (by rw [pr_cross])
theorem lt_pow {a b n : Nat} (h : a ≤ b) (hb : b < 2 ^ n) : a < 2 ^ n := Nat.lt_of_le_of_lt h hb
theorem pw_mono {a m n : Nat} (h : a < 2 ^ m) (hn : m ≤ n) : a < 2 ^ n := Nat.lt_of_lt_of_le h (Nat.pow_le_pow_right (by decide) hn)
theorem pw_mul {a b : Int} {m n : Nat} (ha : a.natAbs < 2 ^ m) (hb : b.natAbs < 2 ^ n) : (a * b).natAbs < 2 ^ (m + n) := wide_lt ha hb
theorem pw_add {a b : Int} {n : Nat} (ha : a.natAbs < 2 ^ n) (hb : b.natAbs < 2 ^ n) : (a + b).natAbs < 2 ^ (n + 1) := by
  rw [Nat.pow_succ]
  omega
theorem pw_sub {a b : Int} {n : Nat} (ha : a.natAbs < 2 ^ n) (hb : b.natAbs < 2 ^ n) : (a - b).natAbs < 2 ^ (n + 1) := by
  rw [Nat.pow_succ]
  omega
theorem ipow_le {c a b : Nat} (hc : 0 < c) (h : a ≤ b) : (c : Int) ^ a ≤ (c : Int) ^ b := by
  rw [← Int.natCast_pow, ← Int.natCast_pow]
  exact Int.ofNat_le.mpr (Nat.pow_le_pow_right hc h)
theorem fm2 (x : Nat) : (x : Int).fmod 2 = ((x % 2 : Nat) : Int) := by
  rw [Int.fmod_eq_emod_of_nonneg _ (by decide)]
  rfl
theorem sh1 (x : Nat) : (x : Int) / 2 ^ Int.toNat 1 = ((x / 2 : Nat) : Int) := rfl
theorem gcd_both {x y : Nat} (hx : x % 2 = 0) (hy : y % 2 = 0) : Nat.gcd x y = 2 * Nat.gcd (x / 2) (y / 2) := by
  have ex : x = 2 * (x / 2) := by omega
  have ey : y = 2 * (y / 2) := by omega
  rw [← Nat.gcd_mul_left, ← ex, ← ey]
theorem dvd_two {k : Nat} (h : k ∣ 2) : k = 1 ∨ k = 2 := by
  have : k ≤ 2 := Nat.le_of_dvd (by decide) h
  rcases (show k = 0 ∨ k = 1 ∨ k = 2 by omega) with rfl | rfl | rfl
  · exact absurd h (by decide)
  · exact .inl rfl
  · exact .inr rfl
theorem gcd_left {x y : Nat} (hx : x % 2 = 0) (hy : y % 2 = 1) : Nat.gcd (x / 2) y = Nat.gcd x y := by
  have ex : x = 2 * (x / 2) := by omega
  have c : Nat.Coprime 2 y := by
    unfold Nat.Coprime
    have := Nat.gcd_dvd_left 2 y
    have h2 : Nat.gcd 2 y ∣ y := Nat.gcd_dvd_right 2 y
    rcases (dvd_two this) with h | h
    · exact h
    · rw [h] at h2
      omega
  have h := Nat.Coprime.gcd_mul_left_cancel (x / 2) c
  rw [← ex] at h
  exact h.symm
theorem gcd_right {x y : Nat} (hx : x % 2 = 1) (hy : y % 2 = 0) : Nat.gcd x (y / 2) = Nat.gcd x y := by
  rw [Nat.gcd_comm x, Nat.gcd_comm x]
  exact gcd_left hy hx
theorem gcd_sub {x y : Nat} (h : y ≤ x) : Nat.gcd (x - y) y = Nat.gcd x y := Nat.gcd_sub_self_left h
/-- the while loops' tests pass on what they find -/
theorem mono_neI {i : Nat} {n : Int} {σ : L2.St} {H : Hp} {Q Q' : Bool → Hp → Prop} (hQ : ∀ b H1, Q b H1 → Q' b H1) (h : tTest (tOp rNe (tVar i) (tC (.int n))) σ H Q) : tTest (tOp rNe (tVar i) (tC (.int n))) σ H Q' := by
  obtain ⟨v, e, s, k, e2, q⟩ := h
  exact ⟨v, e, s, k, e2, hQ _ _ q⟩
end Zk
set_option Elab.async false
set_option linter.all false
set_option maxRecDepth 100000
set_option maxHeartbeats 2000000
namespace Zk
open PySem PySem.Spec PyProof.Rows L2
/-! ## parts: the mathematics -/
def partF : Nat → Int → Int × Nat
  | 0, n => (n, 0)
  | e + 1, n => if n % 2 = 0 then partF e (n / 2) else (n, e + 1)
theorem and_odd (k : Nat) : (2 * k + 1) &&& (2 * k) = 2 * k := by
  have h1 : ((2 * k + 1) &&& (2 * k)) / 2 = k := by
    rw [Nat.and_div_two, show (2 * k + 1) / 2 = k by omega, show 2 * k / 2 = k by omega, Nat.and_self]
  have h2 : ((2 * k + 1) &&& (2 * k)) % 2 = 0 := by
    rcases (show ((2 * k + 1) &&& (2 * k)) % 2 = 0 ∨ ((2 * k + 1) &&& (2 * k)) % 2 = 1 by omega) with h | h
    · exact h
    · have := (Nat.and_mod_two_eq_one.mp h).2
      omega
  omega
theorem and_even {k : Nat} (hk : 0 < k) : (2 * k) &&& (2 * k - 1) = 2 * (k &&& (k - 1)) := by
  have h1 : ((2 * k) &&& (2 * k - 1)) / 2 = (k &&& (k - 1)) := by
    rw [Nat.and_div_two, show 2 * k / 2 = k by omega, show (2 * k - 1) / 2 = k - 1 by omega]
  have h2 : ((2 * k) &&& (2 * k - 1)) % 2 = 0 := by
    rcases (show ((2 * k) &&& (2 * k - 1)) % 2 = 0 ∨ ((2 * k) &&& (2 * k - 1)) % 2 = 1 by omega) with h | h
    · exact h
    · have := (Nat.and_mod_two_eq_one.mp h).1
      omega
  omega
theorem low_bit : ∀ (b n : Nat), n ≤ b → 0 < n → ∃ v m : Nat, n = 2 ^ v * (2 * m + 1) ∧ n - (n &&& (n - 1)) = 2 ^ v ∧ (n &&& (n - 1)) ≤ n
  | 0, n, h, h0 => by omega
  | b + 1, n, h, h0 => by
    rcases (show n % 2 = 1 ∨ n % 2 = 0 by omega) with ho | he
    · refine ⟨0, n / 2, by omega, ?_, ?_⟩
      · have e := and_odd (n / 2)
        rw [show 2 * (n / 2) + 1 = n by omega, show 2 * (n / 2) = n - 1 by omega] at e
        rw [e]
        omega
      · exact Nat.and_le_left
    · obtain ⟨v, m, e1, e2, e3⟩ := low_bit b (n / 2) (by omega) (by omega)
      refine ⟨v + 1, m, ?_, ?_, Nat.and_le_left⟩
      · rw [Nat.pow_succ, Nat.mul_comm (2 ^ v) 2, Nat.mul_assoc, ← e1]
        omega
      · have e := and_even (k := n / 2) (by omega)
        rw [show 2 * (n / 2) = n by omega] at e
        rw [e, Nat.pow_succ, ← e2]
        omega
theorem bits_low {x : Int} (hx : x ≠ 0) : ∃ (v : Nat) (m : Int), x = 2 ^ v * m ∧ m % 2 = 1 ∧ Builtin.Int.intBits (Builtin.bitAnd x (-x)) = v + 1 := by
  obtain ⟨v, m, e1, e2, e3⟩ := low_bit x.natAbs x.natAbs (Nat.le_refl _) (by omega)
  have ea : Builtin.bitAnd x (-x) = ((2 ^ v : Nat) : Int) := by
    rcases (show 0 < x ∨ x < 0 by omega) with h | h
    · rw [bitAnd_pn (by omega) (by omega)]
      have e : (Builtin.bitNot (-x)).toNat = x.natAbs - 1 := by
        unfold Builtin.bitNot
        omega
      rw [e, show x.toNat = x.natAbs by omega, ← e2]
      omega
    · rw [bitAnd_np (by omega) (by omega)]
      have e : (Builtin.bitNot x).toNat = x.natAbs - 1 := by
        unfold Builtin.bitNot
        omega
      rw [e, show (-x).toNat = x.natAbs by omega, ← e2]
      omega
  have p0 : 0 < 2 ^ v := Nat.pow_pos (by decide)
  have eb : Builtin.Int.intBits (Builtin.bitAnd x (-x)) = v + 1 := by
    rw [ea]
    unfold Builtin.Int.intBits
    rw [if_neg (show ¬ ((((2 ^ v : Nat) : Int) == 0) = true) from fun z => by
      have := eq_of_beq z
      omega), Int.natAbs_natCast, Nat.log2_two_pow]
  have ec : ((2 : Int) ^ v) = ((2 ^ v : Nat) : Int) := by rw [Int.natCast_pow]; rfl
  rcases (show 0 < x ∨ x < 0 by omega) with h | h
  · refine ⟨v, 2 * (m : Int) + 1, ?_, by omega, eb⟩
    have : x = (x.natAbs : Int) := by omega
    rw [this, e1, Int.natCast_mul, ec]
    rfl
  · refine ⟨v, -(2 * (m : Int) + 1), ?_, by omega, eb⟩
    have : x = -(x.natAbs : Int) := by omega
    rw [this, e1, Int.natCast_mul, ec, Int.mul_neg]
    rfl
theorem partF_zero (e : Nat) : partF e 0 = (0, 0) := by
  induction e with
  | zero => rfl
  | succ e ih => exact ih
theorem two_even (v : Nat) (m : Int) : (2 ^ (v + 1) * m) % 2 = 0 ∧ (2 ^ (v + 1) * m) / 2 = 2 ^ v * m := by
  have e : (2 : Int) ^ (v + 1) * m = 2 * (2 ^ v * m) := by
    rw [Int.pow_succ, Int.mul_comm (2 ^ v) 2, Int.mul_assoc]
  rw [e]
  omega
theorem partF_val : ∀ (e v : Nat) (m : Int), m % 2 = 1 → partF e (2 ^ v * m) = ((2 ^ v * m) / 2 ^ (min v e), e - min v e)
  | 0, v, m, h => by
    rw [Nat.min_zero, Int.pow_zero, Int.ediv_one]
    rfl
  | e + 1, 0, m, h => by
    unfold partF
    rw [Int.pow_zero, Int.one_mul, if_neg (by omega), Nat.zero_min, Int.pow_zero, Int.ediv_one]
    rfl
  | e + 1, v + 1, m, h => by
    unfold partF
    rw [if_pos (two_even v m).1, (two_even v m).2, partF_val e v m h, Nat.succ_min_succ]
    refine Prod.ext ?_ ?_
    · show 2 ^ v * m / 2 ^ min v e = 2 ^ (v + 1) * m / 2 ^ (min v e + 1)
      rw [Int.pow_succ, Int.pow_succ, Int.mul_comm (2 ^ v) 2, Int.mul_comm (2 ^ min v e) 2, Int.mul_assoc, Int.mul_ediv_mul_of_pos _ _ (by decide)]
    · show e - min v e = e + 1 - (min v e + 1)
      omega
theorem partF_shift (e k : Nat) (n : Int) : partF (e + k) (n * 2 ^ k) = partF e n := by
  induction k with
  | zero => rw [Int.pow_zero, Int.mul_one]; rfl
  | succ k ih =>
    show (if (n * 2 ^ (k + 1)) % 2 = 0 then partF (e + k) ((n * 2 ^ (k + 1)) / 2) else (n * 2 ^ (k + 1), e + k + 1)) = partF e n
    have e1 : n * 2 ^ (k + 1) = 2 * (n * 2 ^ k) := by
      rw [Int.pow_succ, ← Int.mul_assoc, Int.mul_comm]
    rw [if_pos (by rw [e1]; omega), show n * 2 ^ (k + 1) / 2 = n * 2 ^ k by rw [e1]; omega]
    exact ih
theorem partF_is : ∀ (e : Nat) (n : Int), (partF e n).2 = 0 ∨ (partF e n).1 % 2 = 1
  | 0, n => .inl rfl
  | e + 1, n => by
    unfold partF
    by_cases h : n % 2 = 0
    · rw [if_pos h]
      exact partF_is e _
    · rw [if_neg h]
      right
      show n % 2 = 1
      omega
theorem partF_le : ∀ (e : Nat) (n : Int), (partF e n).1.natAbs ≤ n.natAbs ∧ (partF e n).2 ≤ e
  | 0, n => ⟨Nat.le_refl _, Nat.le_refl _⟩
  | e + 1, n => by
    unfold partF
    by_cases h : n % 2 = 0
    · rw [if_pos h]
      have := partF_le e (n / 2)
      omega
    · rw [if_neg h]
      exact ⟨Nat.le_refl _, Nat.le_refl _⟩
/-- what is a part already stays -/
theorem partF_id {e : Nat} {n : Int} (h : e = 0 ∨ n % 2 = 1) : partF e n = (n, e) := by
  cases e with
  | zero => rfl
  | succ e =>
    unfold partF
    rw [if_neg (by omega)]
theorem sum_shift (a b : Int) (e1 e2 : Nat) : partF (max e1 e2) (a * 2 ^ (max e1 e2 - e1) + b * 2 ^ (max e1 e2 - e2)) = partF (e1 + e2) (a * 2 ^ e2 + b * 2 ^ e1) := by
  have h1 : max e1 e2 + min e1 e2 = e1 + e2 := by omega
  rw [← partF_shift (max e1 e2) (min e1 e2), h1, Int.add_mul, Int.mul_assoc, Int.mul_assoc, ← Int.pow_add, ← Int.pow_add, show max e1 e2 - e1 + min e1 e2 = e2 by omega, show max e1 e2 - e2 + min e1 e2 = e1 by omega]
theorem bits_least {n c : Nat} (h : n < 2 ^ c) (h' : ∀ d, d < c → 2 ^ d ≤ n) : Builtin.Int.intBits (n : Int) = c := by
  unfold Builtin.Int.intBits
  by_cases h0 : n = 0
  · subst h0
    rw [if_pos (show ((((0 : Nat) : Int) == 0) = true) from rfl)]
    cases c with
    | zero => rfl
    | succ c => have := h' 0 (by omega); simp at this
  · rw [if_neg (show ¬ (((n : Int) == 0) = true) from fun z => by
      have := eq_of_beq z
      omega), Int.natAbs_natCast]
    cases c with
    | zero => simp at h; omega
    | succ c =>
      have h1 := h' c (by omega)
      have := (Nat.log2_eq_iff h0 (k := c)).mpr ⟨h1, h⟩
      omega
end Zk
set_option Elab.async false
set_option linter.all false
set_option maxRecDepth 100000
set_option maxHeartbeats 2000000
/-! Generator expressions whose element is any expression of the layer (calls of defs, captured names), consumed by all(..): after the pattern of the list comprehension's rule, over segments. -/
namespace Zk
open PySem PySem.Spec PyProof.Rows L2 GenW GxR
/-- the context of a generator expression's frame, running in A -/
abbrev gen (X : Cx) (s : Shared) (H : Hp) (cenv : Env) (fp : List Addr) (A : Around) : Cx := { X with s_0 := s, H_0 := H, A := A, env := cenv, outer := X.stack, stack := cenv :: X.stack, ex := fp, fn := fun _ => false, pn := [], xe := fun _ _ => False }
theorem over_comp {A : Around} {e : Expr} {it acc : Value} {env : Env} (he : ∃ elt gs sc p, e = .GeneratorExp elt gs sc p) : A.over (.compLoop e 0 it acc env) [] = A.deeper env := by
  obtain ⟨elt, gs, sc, p, rfl⟩ := he
  first
    | rfl
    | (obtain ⟨hd, d, fr, gs, u⟩ := A; simp [Around.over, Around.deeper, marksOver, frameCount, unitsOf, envsOf, guardsOf, pushEnvs, pushGuards, Code.envs, Code.env?, Code.isFrame, Code.guards, Code.isGuard, Code.weight, Code.frames, Code.isCreation, Code.isCaller, Code.cUnits])
theorem over_compS {A : Around} {e : Expr} {it acc : Value} {env : Env} (he : ∃ elt gs sc p, e = .GeneratorExp elt gs sc p) : A.over (.compStart e 0 it acc env) [] = A.deeper env := by
  obtain ⟨elt, gs, sc, p, rfl⟩ := he
  first
    | rfl
    | (obtain ⟨hd, d, fr, gs, u⟩ := A; simp [Around.over, Around.deeper, marksOver, frameCount, unitsOf, envsOf, guardsOf, pushEnvs, pushGuards, Code.envs, Code.env?, Code.isFrame, Code.guards, Code.isGuard, Code.weight, Code.frames, Code.isCreation, Code.isCaller, Code.cUnits])
section
variable {X : Cx} {pins : List (Addr × Obj)} {σ : L2.St} {H : Hp} {s : Shared}
theorem gen_start {scope : Scope} {own : List (Str × Nat)} {fp : List Addr} {cenv : Env} {code : Value} {A : Around} {s5 : Shared} {m : Str → Option Value} (I : Inv X pins σ H s) (ok : BlkOk X.N X.env.scope scope own) (hN : X.N.Nodup) (hnc : ∀ y ∈ scope.names, y.2 ≠ .cell)
    (hfp : ∀ b ∈ fp, FpOk X pins H b ∧ b < s.heap.objs.size) (hcenv : cenv = genEnv scope (cloFrom X.env.cells scope.names []) s.heap.objs.size code builtinsNs X.env) (hA : A.frames = some (cenv :: X.stack)) (hAh : A.handled = none)
    (hos : s5.os = s.os) (hb5 : AllBare s5.gens) (kp : ∀ b o, s.heap.get? b = some o → s5.heap.get? b = some o) (hns : s5.heap.Ns s.heap.objs.size m) :
    Inv (gen X s H cenv fp A) [] (wipe σ (own.map (·.2))) H s5 := by
  have hfree : ∀ y ∈ scope.names, y.2 = .free → ∃ c, X.env.cells.lookup y.1 = some c := fun y hy e => by
    rcases ok.free y hy e with k | k
    · exact I.ok.has _ (.inl k)
    · exact I.ok.has _ (.inr k)
  have hL : cenv.locals = s.heap.objs.size := by rw [hcenv]; rfl
  have hcl : cenv.cells = cloFrom X.env.cells scope.names [] := by rw [hcenv]; rfl
  have hsc : cenv.scope = scope := by rw [hcenv]; rfl
  have cm : ∀ {y c}, (y, c) ∈ cloFrom X.env.cells scope.names [] → X.env.cells.lookup y = some c ∧ c < s.heap.objs.size := fun {y c} hm => by
    rcases cloFrom_mem hm with hm | ⟨h1, rfl⟩
    · cases hm
    · obtain ⟨c, hc⟩ := hfree _ h1 rfl
      rw [hc]
      obtain ⟨w, z⟩ := I.cell _ _ hc
      exact ⟨rfl, z.lt⟩
  have mem : ∀ {y c}, cenv.cells.lookup y = some c → X.env.cells.lookup y = some c ∧ c < s.heap.objs.size := fun {y c} e => by
    rw [hcl] at e
    exact cm (PySem.mem_of_lookup e)
  have look : ∀ {y}, scope.names.lookup y = some .free → ∃ c, cenv.cells.lookup y = some c ∧ X.env.cells.lookup y = some c := fun {y} hl => by
    have hy : (y, NameKind.free) ∈ scope.names := PySem.mem_of_lookup hl
    obtain ⟨c', e'⟩ := mem_lookup (cloFrom_has (cells := X.env.cells) (acc := []) hy)
    rw [← hcl] at e'
    exact ⟨c', e', (mem e').1⟩
  have okB : (gen X s H cenv fp A).Ok := by
    refine ⟨I.ok.mod, by show cenv.scope.kind = _; rw [hsc]; exact ok.kind, by show cenv.globals = _; rw [hcenv]; exact I.ok.glob, by show cenv.builtins = _; rw [hcenv]; rfl, by show s.heap.objs.size ≤ cenv.locals; rw [hL]; exact Nat.le_refl _,
      fun y z c e1 e2 => ?_, fun y hy => ?_, fun y c z e => ?_, fun _ => hAh, hA, .inr ⟨rfl, ?_⟩, fun b hb => ⟨?_, fun y c e z => ?_⟩, I.bs, Nat.le_trans I.ok.bsz I.sz, fun b o e hb => ?_, fun b hb z => ?_, I.stack, I.stkFree⟩
    · exact I.ok.inj y z c (mem e1).1 (mem e2).1
    · show ∃ c, cenv.cells.lookup y = some c
      have key : ∀ k, cenv.kindOf y = some k → (k = .cell ∨ k = .free) → ∃ c, cenv.cells.lookup y = some c := fun k hk hk' => by
        unfold Env.kindOf at hk
        rw [hsc] at hk
        rcases hk' with rfl | rfl
        · exact absurd rfl (hnc _ (PySem.mem_of_lookup hk))
        · obtain ⟨c, h1, _⟩ := look hk
          exact ⟨c, h1⟩
      rcases hy with hy | hy
      · exact key _ hy (.inl rfl)
      · exact key _ hy (.inr rfl)
    · cases z
    · show cenv.frame = some cenv.locals
      rw [hcenv]
      rfl
    · show b ≠ cenv.locals
      rw [hL]; exact Nat.ne_of_lt (hfp b hb).2
    · exact (hfp b hb).1.2.2.2.2.1 y c (mem e).1 z
    · rcases (hfp b hb).1.2.2.2.1 with z | z
      · exact I.ok.noex b o e z
      · exact absurd (Nat.lt_of_lt_of_le (Heap.lt_size e) (Nat.le_trans I.ok.bsz z)) (Nat.lt_irrefl _)
    · rcases List.mem_cons.mp (I.stkSub b z) with z | z
      · exact (hfp b hb).1.2.1 z
      · exact (hfp b hb).1.2.2.1 z
  refine ⟨okB, hos, hb5, Un.kept kp, ⟨m, ?_, fun i y av e1 e2 e3 => ?_⟩, fun y c e => ?_, ?_, fun y c e => ?_, fun p hp => ?_, I.hok.kept kp, by rw [wipe_length]; exact I.len⟩
  · show Heap.Ns _ cenv.locals _
    rw [hL]
    exact hns
  · obtain ⟨e2, hne⟩ := wipe_some e2
    have hfr : scope.names.lookup y = some .free := by
      have key : ∀ k, cenv.scope.names.lookup y = some k → k = .local ∨ k = .cell ∨ k = .free → scope.names.lookup y = some .free := fun k hk hk' => by
        rw [hsc] at hk
        rcases hk' with rfl | rfl | rfl
        · exfalso
          rcases ok.own _ (PySem.mem_of_lookup hk) (.inl rfl) with e' | e'
          · obtain ⟨p, hp, hpy⟩ := List.mem_map.mp e'
            have e3 := ok.ix p hp
            have : p.1 = y := hpy
            rw [this] at e3
            exact hne (List.mem_map.mpr ⟨p, hp, nodup_ix hN e3 e1⟩)
          · exact e' (List.mem_of_getElem? e1)
        · exact absurd rfl (hnc _ (PySem.mem_of_lookup hk))
        · exact hk
      have e3 : Vis cenv.scope y := e3
      rcases e3 with e3 | e3 | e3
      · exact key _ e3 (.inl rfl)
      · exact key _ e3 (.inr (.inl rfl))
      · exact key _ e3 (.inr (.inr rfl))
    obtain ⟨m, hn, hl⟩ := I.loc
    have hvis : Vis X.env.scope y := (ok.free _ (PySem.mem_of_lookup hfr) rfl).elim (fun k => .inr (.inl k)) (fun k => .inr (.inr k))
    obtain ⟨w, r, q⟩ := hl i y av e1 e2 hvis
    refine ⟨w, r, .inr ⟨.inr ?_, ?_⟩⟩
    · show cenv.scope.names.lookup y = some .free
      rw [hsc]
      exact hfr
    obtain ⟨c, h1, h2⟩ := look hfr
    rcases q with ⟨k, _⟩ | ⟨_, c', e', z⟩
    · have k : X.env.scope.names.lookup y = some .local := k
      rcases ok.free _ (PySem.mem_of_lookup hfr) rfl with k' | k' <;> rw [show X.env.scope.names.lookup y = _ from k'] at k <;> cases k
    · rw [h2] at e'; cases e'
      exact ⟨c, h1, z.keeps kp⟩
  · obtain ⟨w, z⟩ := I.cell y c (mem e).1
    exact ⟨w, z.keeps kp⟩
  · show H cenv.locals = none
    rw [hL]; exact I.hok.fresh (Nat.le_refl _)
  · exact I.freeC y c (mem e).1
  · exact absurd (show p ∈ ([] : List (Addr × Obj)) ++ [] from hp) (by simp)
/-- all that stood stands as it was -/
def Woken (s s'' : Shared) : Prop := s''.os = s.os ∧ AllBare s''.gens ∧ ∀ b o, s.heap.get? b = some o → s''.heap.get? b = some o
theorem inv_woken {s'' : Shared} (I : Inv X pins σ H s) (w : Woken s s'') : Inv X pins σ H s'' := by
  obtain ⟨h', g', d', t', o'⟩ := s''
  obtain ⟨w1, w2, w3⟩ := w
  have e : o' = s.os := w1
  subst e
  refine I.step (g' := g') (d' := d') (t' := t') (ch := []) (fun b hb => absurd hb (by simp)) (fun b o _ _ _ e _ => w3 b o e) (fun b o _ _ _ e _ => ⟨o.slots, w3 b o e⟩) (fun _ _ _ _ n => n)
    (fun b o _ e => ⟨o, w3 b o e⟩) (fun _ _ e => e) (fun _ _ _ e => e) (fun b ps e => ⟨#[], by rw [e]; simp⟩) (fun m hm => ?_) (fun b u e => ?_) w2
  · obtain ⟨ob, es, ep, ho, r⟩ := hm
    exact ⟨ob, es, ep, w3 _ ob ho, r⟩
  · exact (I.hok b u e).stay (fun d v _ q => w3 d v q) (fun d q => q) fun d xs q => q
/-! ### all(.. for .. in ..) -/
/-- an item is handed out: a truth -/
def YAll (G : Cx) (p0 : List (Addr × Obj)) (Qf : Hp → Prop) : Protocol := fun _ _ v s kap =>
  ∃ (k : Bool) (σ2 : L2.St) (H : Hp), v = .bool k ∧ Inv G p0 σ2 H s ∧ (k = true → ∀ s'', Woken s s'' → kap (.send .none) s'') ∧ (k = false → Qf H)
def FAll (G : Cx) (p0 : List (Addr × Obj)) (Qt : Hp → Prop) : Nat → Shared → Shared → Prop := fun _ _ s => ∃ (σ2 : L2.St) (H : Hp), Inv G p0 σ2 H s ∧ Qt H
def RAll (G : Cx) (p0 : List (Addr × Obj)) (Qt : Hp → Prop) : GenEnd := fun n s₀ r s₁ => ((r = .ok (.ret .none) ∨ r = .ok .next) ∧ FAll G p0 Qt n s₀ s₁) ∨ ∃ e, r = .error e ∧ (fun (_ : Value) (_ : Shared) => False) e s₁
/-- what the loop's turns ask -/
def AllTurns (J : It) (g : TG) (tt : TT) (te : TE) (vs : List Nat) (σw : L2.St) (W : Nat → Nat → Hp → Prop) (Qt Qf : Hp → Prop) : Prop :=
  ∀ i m H, W i m H → (J.stop i H ∧ Qt H) ∨ (J.go i H ∧ ∃ Nx : Hp → Prop, (∀ H', Nx H' → ∃ m', m' < m ∧ W (i + 1) m' H') ∧ ∀ x H', J.yld i H x H' → g x σw H' fun σ2 H2 => wipe σ2 vs = σw ∧ tt σ2 H2 fun b H3 =>
    if b = true then te σ2 H3 fun y H4 => ∃ k, y = .bl k ∧ (if k = true then Nx H4 else Qf H4) else Nx H3)
theorem seg_all {elt tg iter : Expr} {ifs : List Expr} {scope : Scope} {pos : Pos} {it : Addr} {fp : List Addr} {tn : Nat → Heap → Prop} {J : It} {W : Nat → Nat → Hp → Prop} {σw : L2.St} {vs : List Nat} {A : Around} {cenv : Env} {s3 : Shared} {H3 : Hp} {p0 : List (Addr × Obj)} {Qt Qf : Hp → Prop} {g : TG} {tt : TT} {te : TE}
    (hc : X.calm = true) (hco : cenv.scope.isCoroutine = false) (T : Turn X.prog X.w X.K tg J fp it tn) (hp0 : ∀ p ∈ p0, p.1 ∉ fp)
    (pg : PG (gen X s3 H3 cenv fp (A.deeper cenv)) tg g) (pt : PTs (gen X s3 H3 cenv fp (A.deeper cenv)) ifs tt) (pe : PE (gen X s3 H3 cenv fp (A.deeper cenv)) elt te) (turn : AllTurns J g tt te vs σw W Qt Qf) :
    ∀ (m i n : Nat) (s₀ s : Shared) (H : Hp), m < n → Inv (gen X s3 H3 cenv fp (A.deeper cenv)) p0 σw H s → tn i s.heap → (∀ b ∈ fp, H b = none) → W i m H →
      Seg (model X.prog X.w) A (RAll (gen X s3 H3 cenv fp (A.deeper cenv)) p0 Qt) (YAll (gen X s3 H3 cenv fp (A.deeper cenv)) p0 Qf) n s₀ (.compLoop (.GeneratorExp elt [⟨tg, iter, ifs, 0⟩] scope pos) 0 (.ref it) .none cenv)
        ((model X.prog X.w).den (.compLoop (.GeneratorExp elt [⟨tg, iter, ifs, 0⟩] scope pos) 0 (.ref it) .none cenv)) [] s := by
  have ov : A.over (.compLoop (.GeneratorExp elt [⟨tg, iter, ifs, 0⟩] scope pos) 0 (.ref it) .none cenv) [] = A.deeper cenv := over_comp ⟨_, _, _, _, rfl⟩
  have stat : ∀ {σ' : L2.St} {H' : Hp} {s' : Shared}, Inv (gen X s3 H3 cenv fp (A.deeper cenv)) p0 σ' H' s' → (∀ b ∈ fp, H' b = none) → ∀ b ∈ fp, FpOk (gen X s3 H3 cenv fp (A.deeper cenv)) p0 H' b := fun {σ' H' s'} I' hn b hb =>
    ⟨hn b hb, (I'.ok.exf b hb).1, I'.ok.exfs b hb, .inl hb, fun x c e => (I'.ok.exf b hb).2 x c e, fun p hp z => by
      rcases List.mem_append.mp hp with hp | hp
      · cases hp
      · exact hp0 p hp (z ▸ hb)⟩
  intro m
  induction m using Nat.strongRecOn with
  | ind m ih =>
    intro i n s₀ s H hmn I st nf w
    obtain ⟨n, rfl⟩ : ∃ k, n = k + 1 := ⟨n - 1, by omega⟩
    show Seg _ A _ _ _ s₀ _ ((compTurn (.GeneratorExp elt [⟨tg, iter, ifs, 0⟩] scope pos) 0 (.ref it) .none cenv).onRaise (leaving cenv)) [] s
    rw [compTurn_gen, Sem.onRaise_eq_wrap]
    refine seg_bind_wrap (wpAny_standAt ?_)
    rcases turn i m H w with ⟨stop, qq⟩ | ⟨go, Nx, hNx, step⟩
    · have td := T.done (gen X s3 H3 cenv fp (A.deeper cenv)) rfl rfl rfl hc i p0 s _ H (fun _ _ => False) I (stat I nf) st stop
      refine seg_bind_wrap ?_
      rw [ov]
      refine thnF td fun r s6 ⟨hr, I6⟩ => ?_
      subst hr
      exact seg_end (.ok .next) (.inl ⟨.inr rfl, _, _, I6, qq⟩)
    · have ti := T.item (gen X s3 H3 cenv fp (A.deeper cenv)) rfl rfl rfl hc i p0 s _ H (fun _ _ => False) I (stat I nf) st go
      refine seg_bind_wrap ?_
      rw [ov]
      refine thnF ti fun r s6 ⟨u, hr, h6⟩ => ?_
      subst hr
      refine seg_bind_wrap ?_
      rw [ov]
      refine thnF h6 fun _ s7 ⟨x, H7, I7, r7, y7, st7, n7⟩ => ?_
      have I7' := I7.pinned (stat I7 n7) (T.obj _ _ st7)
      refine seg_bind_wrap ?_
      rw [ov]
      refine thnF (pg.run _ s7 _ H7 x u _ I7' r7 (step x H7 y7)) fun _ s8 ⟨σ8, H8, I8, hw8, q8⟩ => ?_
      refine seg_bind_wrap ?_
      rw [ov]
      refine thnF (pt.run _ s8 σ8 H8 _ I8 q8) fun b s9 ⟨H9, I9, q9⟩ => ?_
      -- the turn's end
      have fin : ∀ {s' s'' : Shared} {H' : Hp} {n' : Nat} {s0' : Shared}, Inv (gen X s3 H3 cenv fp (A.deeper cenv)) (p0 ++ pinsAt fp s7.heap) σ8 H' s' → Woken s' s'' → Nx H' → m ≤ n' →
          Seg (model X.prog X.w) A (RAll (gen X s3 H3 cenv fp (A.deeper cenv)) p0 Qt) (YAll (gen X s3 H3 cenv fp (A.deeper cenv)) p0 Qf) n' s0' (.compLoop (.GeneratorExp elt [⟨tg, iter, ifs, 0⟩] scope pos) 0 (.ref it) .none cenv)
            ((model X.prog X.w).den (.compLoop (.GeneratorExp elt [⟨tg, iter, ifs, 0⟩] scope pos) 0 (.ref it) .none cenv)) [] s'' := fun {s' s'' H' n' s0'} I' wk nx hn' => by
        obtain ⟨m', hm, w'⟩ := hNx H' nx
        have pin' : ∀ b ∈ fp, ∀ o, s7.heap.get? b = some o → s'.heap.get? b = some o ∧ H' b = none := fun b hb o e =>
          let z := I'.pin (b, o) (List.mem_append_right _ (List.mem_append_right _ (mem_pinsAt hb e)))
          ⟨z.1, z.2.1⟩
        have hl : σw.length = σ8.length := by rw [← hw8, wipe_length]
        refine ih m' hm (i + 1) n' s0' s'' H' (by omega) (inv_woken ((I'.unpinned (pins := p0)).weak hl (fun j v e => ?_)) wk) (T.keep _ _ _ st7 fun b hb o e => wk.2.2 b o (pin' b hb o e).1) (fun b hb => ?_) w'
        · rw [← hw8] at e
          exact (wipe_some e).1
        · obtain ⟨o, e, _⟩ := T.obj _ _ st7 b hb
          exact (pin' b hb o e).2
      have wk0 : ∀ {s' : Shared} {H' : Hp} {pl : List (Addr × Obj)} {σ' : L2.St}, Inv (gen X s3 H3 cenv fp (A.deeper cenv)) pl σ' H' s' → Woken s' s' := fun I' => ⟨rfl, I'.bare, fun _ _ e => e⟩
      cases b with
      | false =>
        simp only [Bool.false_eq_true, if_false] at q9 ⊢
        exact seg_again rfl (fin I9 (wk0 I9) q9 (by omega))
      | true =>
        simp only [if_true] at q9 ⊢
        have hy : ∀ v, yieldOut cenv v = yieldValue v := fun v => by simp only [yieldOut, hco, Bool.false_eq_true, if_false]
        simp only [hy]
        rw [Sem.bind_eq_wrap', Sem.bind_eq_wrap', Sem.wrap_wrap, Sem.wrap_wrap]
        refine seg_wrap ?_
        rw [ov]
        refine thnF (pe.run _ s9 σ8 H9 _ I9 q9) fun z s10 ⟨yv, H10, I10, r10, k, hk, nx⟩ => ?_
        subst hk
        cases (show z = Value.bool k from r10)
        refine seg_at (seg_yield rfl rfl rfl ⟨k, σ8, H10, rfl, I10.unpinned, fun hk s'' wk => ?_, fun hk => ?_⟩)
        · rw [if_pos hk] at nx
          exact seg_again rfl (fin I10 wk nx (by omega))
        · rw [hk] at nx
          simpa using nx
theorem seg_allStart {elt tg iter : Expr} {ifs : List Expr} {scope : Scope} {pos : Pos} {it : Addr} {fp : List Addr} {tn : Nat → Heap → Prop} {J : It} {W : Nat → Nat → Hp → Prop} {σw : L2.St} {vs : List Nat} {A : Around} {cenv : Env} {s3 : Shared} {H3 : Hp} {p0 : List (Addr × Obj)} {Qt Qf : Hp → Prop} {g : TG} {tt : TT} {te : TE}
    (hc : X.calm = true) (hco : cenv.scope.isCoroutine = false) (T : Turn X.prog X.w X.K tg J fp it tn) (hp0 : ∀ p ∈ p0, p.1 ∉ fp)
    (pg : PG (gen X s3 H3 cenv fp (A.deeper cenv)) tg g) (pt : PTs (gen X s3 H3 cenv fp (A.deeper cenv)) ifs tt) (pe : PE (gen X s3 H3 cenv fp (A.deeper cenv)) elt te) (turn : AllTurns J g tt te vs σw W Qt Qf)
    (m n : Nat) (s₀ s : Shared) (H : Hp) (hmn : m < n) (I : Inv (gen X s3 H3 cenv fp (A.deeper cenv)) p0 σw H s) (st : tn 0 s.heap) (nf : ∀ b ∈ fp, H b = none) (w : W 0 m H) :
      Seg (model X.prog X.w) A (RAll (gen X s3 H3 cenv fp (A.deeper cenv)) p0 Qt) (YAll (gen X s3 H3 cenv fp (A.deeper cenv)) p0 Qf) n s₀ (.compStart (.GeneratorExp elt [⟨tg, iter, ifs, 0⟩] scope pos) 0 (.ref it) .none cenv)
        ((model X.prog X.w).den (.compStart (.GeneratorExp elt [⟨tg, iter, ifs, 0⟩] scope pos) 0 (.ref it) .none cenv)) [] s := by
  have loop := fun s₀ => seg_all (iter := iter) (scope := scope) (pos := pos) hc hco T hp0 pg pt pe turn m 0 n s₀ s H hmn I st nf w
  show Seg _ A _ _ _ s₀ _ ((compStart (.GeneratorExp elt [⟨tg, iter, ifs, 0⟩] scope pos) 0 (.ref it) .none cenv).onRaise (leaving cenv)) [] s
  unfold compStart
  rw [Sem.onRaise_eq_wrap]
  show Seg _ A _ _ _ s₀ _ ((ask >>= _).wrap _ _ _ _) [] s
  refine seg_bind_wrap (wpAny_askSetting ?_)
  split
  · exact seg_again rfl (loop s₀)
  · first
      | exact seg_bind_wrap (wpAny_rule (seg_bind_wrap (wpAny_standAt (seg_bind_wrap (T.self _ 0 s _ _ st (seg_again rfl (loop s₀)))))))
      | (refine seg_bind_wrap (wpAny_rule ?_); show Seg _ A _ _ _ s₀ _ ((standAt iter.pos >>= _).wrap _ _ _ _) [] s; exact seg_bind_wrap (wpAny_standAt (seg_bind_wrap (T.self _ 0 s _ _ st (seg_again rfl (loop s₀))))))
theorem wk_setGen {s s1 : Shared} {g : Nat} {x : GenState} (w : Woken s s1) (hx : x.bare = true) : Woken s (s1.setGen g x) := ⟨w.1, allBare_setGen w.2.1 hx, w.2.2⟩
/-- the loop of all over such a generator -/
theorem all_loop {G : Cx} {p0 : List (Addr × Obj)} {Qt Qf : Hp → Prop} {A : Around} {R : Result → Shared → Prop} {a : Addr} {g : Nat} {oa : Obj} (hh : A.handled = none) (hd : A.depth < recursionLimit)
    (hpa : (a, oa) ∈ p0) (hga : ∀ h : Heap, h.get? a = some oa → h.IsGen a g)
    (hT : ∀ s1 s' σ2 H, Inv G p0 σ2 H s1 → Qt H → Woken s1 s' → R (.ok (.ret (.bool true))) s') (hF : ∀ s1 s' σ2 H, Inv G p0 σ2 H s1 → Qf H → Woken s1 s' → R (.ok (.ret (.bool false))) s') :
    ∀ (n : Nat) (s : Shared), s.heap.IsGen a g → s.heap.NoLimit →
      (∃ gs, s.gens[g]? = some gs ∧ gs.Goes (model G.prog G.w) A.in1.in1 (RAll G p0 Qt) (YAll G p0 Qf) n (.send .none) (s.setGen g .running)) →
      codeAny (model G.prog G.w) A (.builtin "all.loop" ⟨[.ref a], []⟩) R s := by
  intro n
  induction n with
  | zero =>
    intro s hg hl ⟨gs, hgs, hgo⟩
    refine codeAny_builtin F.entry_all_loop ?_
    rw [Around.under_plainId F.plain_all_loop _]
    show wpAny _ A.in1 (pyNext (.ref a) >>= _) _ _ s
    refine wpAny_bind (next_genG (A := A.in1) (F := FAll G p0 Qt) (Er := fun _ _ => False) hh hl hd hg hgs hgo (fun v s₁ gs' hbare hv => ?_) (fun s₁ hp h' hk => ?_) fun e s₁ he => he.elim)
    · obtain ⟨k, σ2, H, rfl, I, hk1, hk0⟩ := hv
      cases k with
      | true => exact (hk1 rfl s₁ ⟨rfl, I.bare, fun _ _ e => e⟩).elim
      | false =>
        show wpAny _ A.in1 (holding [Value.bool false] (truthy (.bool false)) >>= _) _ _ _
        refine wpAny_bind (wpAny_holding (wpAny_truthy_bool ?_))
        refine wpAny_bind (wpAny_letGo ?_)
        simp only [Bool.false_eq_true, if_false]
        refine wpAny_bind (wpAny_rule (wpAny_pure ?_))
        exact hF s₁ _ σ2 H I (hk0 rfl) (wk_setGen ⟨rfl, I.bare, fun _ _ e => e⟩ hbare)
    · obtain ⟨σ2, H, I, hq⟩ := hp
      refine wpAny_bind (wpAny_rule (wpAny_pure ?_))
      exact hT s₁ _ σ2 H I hq ⟨rfl, allBare_setGen I.bare rfl, hk⟩
  | succ n ih =>
    intro s hg hl ⟨gs, hgs, hgo⟩
    have hgl : g < s.gens.size := (Array.getElem?_eq_some_iff.mp hgs).1
    refine codeAny_builtin F.entry_all_loop ?_
    rw [Around.under_plainId F.plain_all_loop _]
    show wpAny _ A.in1 (pyNext (.ref a) >>= _) _ _ s
    refine wpAny_bind (wpAny_gsz (n := g + 1) hgl (next_genG (A := A.in1) (F := FAll G p0 Qt) (Er := fun _ _ => False) hh hl hd hg hgs hgo (fun v s₁ gs' hbare hv => ?_) (fun s₁ hp h' hk => ?_) fun e s₁ he => he.elim))
    · intro hsz
      obtain ⟨k, σ2, H, rfl, I, hk1, hk0⟩ := hv
      show wpAny _ A.in1 (holding [Value.bool k] (truthy (.bool k)) >>= _) _ _ _
      refine wpAny_bind (wpAny_holding (wpAny_truthy_bool ?_))
      refine wpAny_bind (wpAny_letGo ?_)
      have hsz1 : g < s₁.gens.size := by
        have q : (s₁.setGen g gs').gens.size = s₁.gens.size := setGen_size _ _ _
        have hsz' : g + 1 ≤ (s₁.setGen g gs').gens.size := hsz
        omega
      have w1 : Woken s₁ (s₁.setGen g gs') := wk_setGen ⟨rfl, I.bare, fun _ _ e => e⟩ hbare
      cases k with
      | true =>
        simp only [if_true]
        have ha : (s₁.setGen g gs').heap.get? a = some oa := (I.pin (a, oa) (List.mem_append_right _ hpa)).1
        refine wpAny_pure ⟨plainId_quiet F.plain_all_loop _, ih (s₁.setGen g gs') (hga _ ha) I.nolimit ⟨gs', setGen_at hsz1, hk1 rfl _ (wk_setGen w1 rfl)⟩⟩
      | false =>
        simp only [Bool.false_eq_true, if_false]
        refine wpAny_bind (wpAny_rule (wpAny_pure ?_))
        exact hF s₁ _ σ2 H I (hk0 rfl) w1
    · intro hsz
      obtain ⟨σ2, H, I, hq⟩ := hp
      refine wpAny_bind (wpAny_rule (wpAny_pure ?_))
      exact hT s₁ _ σ2 H I hq ⟨rfl, allBare_setGen I.bare rfl, hk⟩
/-- all(test for x in e): the element any expression of the layer -/
def tAllG (P : Addr) (wi : TI) (g : TG) (tt : TT) (te : TE) (vs : List Nat) : TE := fun σ H Q => wi σ H fun J H1 => TabG H1 P ∧ ∀ H2, Tabbed P H1 H2 →
  ∃ W : Nat → Nat → Hp → Prop, (∃ m, W 0 m H2) ∧ AllTurns J g tt te vs (wipe σ vs) W (fun H => Q (.bl true) H) (fun H => Q (.bl false) H)
/-- the generator expression's own scope -/
structure GScp (scope : Scope) : Prop where
  co : scope.isCoroutine = false
  nc : ∀ y ∈ scope.names, y.2 ≠ .cell
  dot : scope.names.lookup (".0" : Str) = some NameKind.local
theorem pe_all {c P : Addr} {elt tg iter : Expr} {ifs : List Expr} {scope : Scope} {own : List (Str × Nat)} {p pos gpos : Pos} {wi : TI} {g : TG} {tt : TT} {te : TE} {k : Nat}
    (hr : Room (k + 4) X.A) (hgl : Gl X "all") (hm : X.mg "all" = none) (TB : TabB X.base X.mg c P) (hcode : X.env.code = .ref c) (hc : X.calm = true) (hN : X.N.Nodup) (hi : PI X tg iter wi) (ok : BlkOk X.N X.env.scope scope own) (S : GScp scope)
    (hg : ∀ (s : Shared) (H : Hp) (C : Addr) (cl : List (Str × Addr)) (code : Value) (fp : List Addr) (A : Around), Room k A → PG (gen X s H (genEnv scope cl C code builtinsNs X.env) fp A) tg g)
    (ht : ∀ (s : Shared) (H : Hp) (C : Addr) (cl : List (Str × Addr)) (code : Value) (fp : List Addr) (A : Around), Room k A → PTs (gen X s H (genEnv scope cl C code builtinsNs X.env) fp A) ifs tt)
    (he : ∀ (s : Shared) (H : Hp) (C : Addr) (cl : List (Str × Addr)) (code : Value) (fp : List Addr) (A : Around), Room k A → PE (gen X s H (genEnv scope cl C code builtinsNs X.env) fp A) elt te)
    (hs : ∀ v, genFold iter X.env v = pure v)
    (hst : starEach [.GeneratorExp elt [⟨tg, iter, ifs, 0⟩] scope gpos] X.env = (false, eval (.GeneratorExp elt [⟨tg, iter, ifs, 0⟩] scope gpos) X.env) :: starEach [] X.env := by rfl) :
    PE X (.Call (.Name "all" p) [.GeneratorExp elt [⟨tg, iter, ifs, 0⟩] scope gpos] [] pos) (tAllG P wi g tt te (own.map (·.2))) := by
  refine ⟨fun pins s σ H Q I h => ?_⟩
  have hfree : ∀ y ∈ scope.names, y.2 = .free → ∃ c, X.env.cells.lookup y.1 = some c := fun y hy e => by
    rcases ok.free y hy e with k | k
    · exact I.ok.has _ (.inl k)
    · exact I.ok.has _ (.inr k)
  refine wpAny_Call_Name_kw (ld_blt I hgl hm (by decide +kernel : bootBuiltins "all" = some (.builtin "all")) ?_)
  refine PyProof.Rows.callWith_builtin1 ?_ hst (by rfl)
  rw [hst]
  show wpAny _ _ (spliced ((false, eval (.GeneratorExp elt [⟨tg, iter, ifs, 0⟩] scope gpos) X.env) :: backTo pos (starEach [] X.env))) _ _ s
  refine Calls.spliced_cons ?_
  refine wpAny_GeneratorExp_make S.co (closure_ok hfree) S.nc S.dot ok.kind (by have := hr.dp; omega) ?_ hs
  refine thn (hi.run pins s σ H _ I h) fun xv s1 hx => thn hx fun itv s2 h2 => ?_
  obtain ⟨it, fp, tn, J, H2, e, I2, T, st2, f2, ⟨ps, hP, ht0⟩, q⟩ := h2
  subst e
  refine ⟨I2.nolimit, ?_⟩
  have hPs : s2.heap.get? P = some { cls := .none, data := .fields ps } := I2.hok P _ hP
  have cd : PySem.W.CodeHd s2.heap c P := TB.code.keeps fun b u e => I2.bk b u e
  have fpP : ∀ b ∈ fp, b ≠ P := fun b hb z => by
    have := (f2 b hb).1
    rw [z, hP] at this
    cases this
  have sz : ∀ b ∈ fp, b < s2.heap.objs.size := fun b hb => by
    obtain ⟨o, e, _⟩ := T.obj _ _ st2 b hb
    exact Heap.lt_size e
  have cont : ∀ (code : Value) (h3 : Heap) (tk : Nat) (ps' : Array Value), Heap.ExtBut P s2.heap h3 → s2.heap.objs.size ≤ h3.objs.size → h3.get? P = some { cls := .none, data := .fields ps' } → (∃ more, ps' = ps ++ more) → TriplesOk ps'.toList →
      wpAny (model X.prog X.w) X.A (builtinsFor X.env.globals X.env.builtins) (fun bi s₄ =>
        ∀ h', h'.Ns s₄.heap.objs.size (fun y => if y = ".0" then some (.ref it) else none) → Heap.SameBut s₄.heap.objs.size (s₄.heap.push { cls := .type "frame", data := .dict #[] }) h' →
          wpAny (model X.prog X.w) X.A (spliced (backTo pos (starEach [] X.env))) (fun vs s₁ => wpAny (model X.prog X.w) X.A (call (.builtin "all") (.ref h'.objs.size :: vs)) (EP X pins σ Q) X.xe s₁) X.xe { s₄ with
            gens := s₄.gens.push (.fresh (.compStart (.GeneratorExp elt [⟨tg, iter, ifs, 0⟩] scope gpos) 0 (.ref it) .none (genEnv scope (cloFrom X.env.cells scope.names []) s₄.heap.objs.size code bi X.env))),
            toks := s₄.toks + 1 + 1 + 1,
            heap := h'.push { cls := .type "generator", data := .fields #[.int s₄.gens.size 0, .str "<genexpr>" (s₄.toks + 1), .str (X.env.qual ++ "<genexpr>") (s₄.toks + 1 + 1)] } }) X.xe { s2 with heap := h3, toks := tk } := by
    intro code h3 tk ps' hx hsz hP3 hmore ht3
    obtain ⟨more, rfl⟩ := hmore
    obtain ⟨bm, ob, e1, e2, e3, e4, e5, e6, e7, e8⟩ := TB.bm
    have keep3 : ∀ b u, b ≠ P → s2.heap.get? b = some u → h3.get? b = some u := fun b u hb e => hx b u hb e
    refine wpAny_builtinsFor (m := X.mg) (by rw [I2.ok.glob]; exact (I2.mod.glob.keeps I2.bk).extBut hx TB.gP) e1 e2 (keep3 _ _ e4 (I2.bk _ _ e5)) e6 e7 e8 ?_
    generalize hs4 : ({ s2 with heap := h3, toks := tk } : Shared) = s4
    have h4h : s4.heap = h3 := by rw [← hs4]
    have I4 : Inv X pins σ (upd H2 P (.tbl (ps ++ more))) s4 := by
      rw [← hs4]
      exact inv_tab (more := more) (h' := h3) (g' := s2.gens) (d' := s2.drawn) (t' := tk) I2 hP keep3 hP3 I2.bare
    have hT2 : Tabbed P H2 (upd H2 P (.tbl (ps ++ more))) := ⟨⟨_, upd_same, ht3⟩, fun b hb => upd_ne hb⟩
    obtain ⟨W, ⟨m0, w0⟩, turn⟩ := q _ hT2
    generalize hH4 : upd H2 P (.tbl (ps ++ more)) = H4 at I4 w0
    have f4 : ∀ b ∈ fp, FpOk X pins H4 b ∧ b < s4.heap.objs.size := fun b hb => by
      refine ⟨⟨?_, (f2 b hb).2⟩, by rw [h4h]; exact Nat.lt_of_lt_of_le (sz b hb) hsz⟩
      rw [← hH4, upd_ne (fpP b hb)]
      exact (f2 b hb).1
    have st4 : tn 0 s4.heap := T.keep _ _ _ st2 fun b hb o e => by rw [h4h]; exact keep3 b o (fpP b hb) e
    intro h' hn' hs'
    have hsz' : h'.objs.size = s4.heap.objs.size + 1 := by rw [hs'.1, Heap.size_push]
    have keep' : ∀ b o, s4.heap.get? b = some o → h'.get? b = some o := fun b o e => hs'.extBut b o (Nat.ne_of_lt (Heap.lt_size e)) (Heap.get?_push_of_some _ e)
    generalize hoa : ({ cls := .type "generator", data := .fields #[.int s4.gens.size 0, .str "<genexpr>" (s4.toks + 1), .str (X.env.qual ++ "<genexpr>") (s4.toks + 1 + 1)] } : Obj) = oa
    generalize hcenv : genEnv scope (cloFrom X.env.cells scope.names []) s4.heap.objs.size code builtinsNs X.env = cenv
    generalize hs5 : ({ s4 with gens := s4.gens.push (.fresh (.compStart (.GeneratorExp elt [⟨tg, iter, ifs, 0⟩] scope gpos) 0 (.ref it) .none cenv)), toks := s4.toks + 1 + 1 + 1, heap := h'.push oa } : Shared) = s5
    have h5h : s5.heap = h'.push oa := by rw [← hs5]
    have kp5 : ∀ b o, s4.heap.get? b = some o → s5.heap.get? b = some o := fun b o e => by rw [h5h]; exact Heap.get?_push_of_some _ (keep' b o e)
    have ha5 : s5.heap.get? h'.objs.size = some oa := by rw [h5h]; exact Heap.get?_push_size _ (by rw [← hoa]; rfl)
    have g5 : s5.gens[s4.gens.size]? = some (.fresh (.compStart (.GeneratorExp elt [⟨tg, iter, ifs, 0⟩] scope gpos) 0 (.ref it) .none cenv)) := by rw [← hs5]; exact Array.getElem?_push_size ..
    have b5 : AllBare s5.gens := by rw [← hs5]; exact I4.bare.push rfl
    have isg : ∀ h : Heap, h.get? h'.objs.size = some oa → h.IsGen h'.objs.size s4.gens.size := fun h e => by
      rw [← hoa] at e
      exact ⟨_, _, _, e, rfl, rfl, rfl⟩
    refine Calls.spliced_nil ?_
    refine call_function_tree F.kind_all F.plain_all F.entry_all (F.args_all1 _) ?_
    unfold Builtin.«all»
    refine wpAny_bind (m := oneArg "all" _) (wpAny_pure ?_)
    refine wpAny_bind (wpAny_pyIter_gen (isg _ ha5) ?_)
    have back : ∀ s1 s' σ2 H', Inv (gen X s4 H4 cenv fp (X.A.in1.in1.deeper cenv)) [(h'.objs.size, oa)] σ2 H' s1 → Woken s1 s' → Inv X pins σ H' s' := fun s1 s' σ2 H' I1 wk =>
      inv_woken (I4.call' (ch := fp) I1.os I1.base I1.hok I1.bare fun b hb => ⟨(f4 b hb).1.2.2.2.1, (f4 b hb).1.2.1, (f4 b hb).1.2.2.2.2.1, (f4 b hb).1.2.2.2.2.2⟩) wk
    have frm : (X.A.in1.in1.deeper cenv).frames = some (cenv :: X.stack) := Around.frames_deeper I4.ok.frames
    have hrA : Room k (X.A.in1.in1.deeper cenv) := ((((hr.mono (by omega : k + 3 ≤ k + 4)).in1).in1).deeper cenv)
    have I5 : Inv (gen X s4 H4 cenv fp (X.A.in1.in1.deeper cenv)) [] (wipe σ (own.map (·.2))) H4 (s5.setGen s4.gens.size .running) :=
      gen_start (s5 := s5.setGen s4.gens.size .running) I4 ok hN S.nc f4 hcenv.symm frm hrA.hd (by rw [← hs5]; rfl) (allBare_setGen b5 rfl) kp5 (show Heap.Ns s5.heap s4.heap.objs.size _ by rw [h5h]; exact hn'.push _)
    have I6 : Inv (gen X s4 H4 cenv fp (X.A.in1.in1.deeper cenv)) [(h'.objs.size, oa)] (wipe σ (own.map (·.2))) H4 (s5.setGen s4.gens.size .running) := I5.pins_of fun p hp => by
      have ep : p = (h'.objs.size, oa) := List.mem_singleton.mp hp
      subst ep
      have hge : s4.heap.objs.size ≤ h'.objs.size := by omega
      refine ⟨ha5, I4.hok.fresh hge, ?_, fun z => ?_, fun v z => ?_⟩
      · show h'.objs.size ≠ cenv.locals
        rw [← hcenv]
        show h'.objs.size ≠ s4.heap.objs.size
        omega
      · rcases List.mem_cons.mp (I4.stkSub _ z) with z | z
        · have hlt : h'.objs.size < s4.heap.objs.size := by
            rw [show h'.objs.size = X.env.locals from z]
            exact I4.lt
          exact absurd (Nat.lt_of_lt_of_le hlt hge) (Nat.lt_irrefl _)
        · exact I4.nofs hge z
      · rw [← hoa] at z
        cases z
    have hnf : ∀ b ∈ fp, H4 b = none := fun b hb => (f4 b hb).1.1
    have seg := seg_allStart (iter := iter) (scope := scope) (pos := gpos) (A := X.A.in1.in1) (p0 := [(h'.objs.size, oa)]) hc (by rw [← hcenv]; exact S.co) T (fun p hp z => by
        rw [List.mem_singleton.mp hp] at z
        have := (f4 _ z).2
        have hge : s4.heap.objs.size ≤ h'.objs.size := by omega
        exact absurd (Nat.lt_of_lt_of_le this hge) (Nat.lt_irrefl _))
      (by rw [← hcenv]; exact hg s4 H4 _ _ code fp _ (by rw [hcenv]; exact hrA)) (by rw [← hcenv]; exact ht s4 H4 _ _ code fp _ (by rw [hcenv]; exact hrA)) (by rw [← hcenv]; exact he s4 H4 _ _ code fp _ (by rw [hcenv]; exact hrA))
      turn m0 (m0 + 1) (s5.setGen s4.gens.size .running) (s5.setGen s4.gens.size .running) H4 (by omega) I6 (T.keep _ _ _ st4 fun b _ o e => kp5 b o e) hnf w0
    refine wpAny_pure ⟨plainId_quiet F.plain_all_loop _, ?_⟩
    refine all_loop (G := gen X s4 H4 cenv fp (X.A.in1.in1.deeper cenv)) (p0 := [(h'.objs.size, oa)]) (A := X.A) (Qt := fun H => Q (.bl true) H) (Qf := fun H => Q (.bl false) H) hr.hd (by have := hr.dp; omega) (List.mem_singleton.mpr rfl) isg
      (fun s1 s' σ2 H' I1 hq wk => ⟨.bl true, H', back s1 s' σ2 H' I1 wk, rfl, hq⟩) (fun s1 s' σ2 H' I1 hq wk => ⟨.bl false, H', back s1 s' σ2 H' I1 wk, rfl, hq⟩) (m0 + 1) s5 (isg _ ha5) (I4.nolimit.keeps kp5) ⟨_, g5, rfl, seg⟩
  cases hf : codeAmong gpos ps.toList with
  | none =>
    refine wpAny_genexprCodeX hcode (cd.code hPs ht0) (cd.tab hPs) hf fun c' h' tk hx hge hlt hco' _ htab' _ => ?_
    obtain ⟨o1, vs, f1, tf, fl, tg', inF, tx, tt', op, _, _, _, _, _, _, _, _, _, htr, _⟩ := hco'
    exact cont _ h' tk _ hx (Nat.le_trans hge (Nat.le_of_lt hlt)) htab'.2 ⟨_, rfl⟩ htr
  | some cv =>
    refine wpAny_genexprCode_hit hcode (cd.code hPs ht0) hf ?_
    exact cont cv s2.heap s2.toks ps (Heap.ExtBut.refl _ _) (Nat.le_refl _) hPs ⟨#[], by simp⟩ ht0
end
/-! ### a def with its code object; tables -/
theorem okC {P : Program} {w : World} {K : PySem.W.Frag} {mg : Str → Option Value} {base : Heap} {x qual : Str} {params : Arguments} {body : List Stmt} {scope : Scope} {f : Addr} {fd : FuncData} {N ps : List Str} {k : Nat} {sp : Sp} (F : FunD K x qual params body scope [] [] f fd) (S : FnScope N ps scope) (len : ∀ vs H Q E, sp vs H Q E → vs.length = ps.length)
    (hbody : ∀ (A : Around) (outer : List Env) (s : Shared) (H : Hp) (vs : List V) (Q : VK) (E : XK), Room k (A.deeper (envOfC qual scope s.heap.objs.size f fd.code)) → sp vs H Q E →
      ∃ t, PSs (cxOf CX0 P w K mg base N qual scope f fd.code A outer s H E) body t ∧ t { nx := fun _ H' => Q .non H', rt := Q } (start N vs) H) : FnOk P w K mg base CX0 (k + 1) f fd ps sp := by
  obtain ⟨oc, od, dV, kV, doc, pm, an, cdv, ct, osl, rfl, lk, hcd, _, _⟩ := F.ex
  exact fn_of lk hcd S len fun A outer s H vs Q E hr hsp => hbody A outer s H vs Q E hr hsp
theorem tab_get {P b : Addr} {H H' : Hp} {o : HO} (t : Tabbed P H H') (h : H b = some o) (n : ∀ ps, o ≠ .tbl ps) (hP : TabG H P) : H' b = some o := by
  obtain ⟨ps, hp, _⟩ := hP
  rw [t.2 b (ne_of h hp (n ps))]
  exact h
theorem tab_back {P b : Addr} {H H' : Hp} (t : Tabbed P H H') (h : H' b = none) : H b = none := by
  by_cases z : b = P
  · obtain ⟨ps, hp, _⟩ := t.1
    rw [z, hp] at h
    cases h
  · rw [← t.2 b z]
    exact h
theorem tg_same {P : Addr} {H H' : Hp} (h : TabG H P) (e : Same H H') : TabG H' P := by
  obtain ⟨ps, hp, t⟩ := h
  exact ⟨ps, e _ _ hp, t⟩
theorem tg_dr {s P : Addr} {H H' : Hp} (h : TabG H P) (d : Dr s H H') : TabG H' P := by
  obtain ⟨ps, hp, t⟩ := h
  obtain ⟨a, b, c, hs⟩ := d.src0
  exact ⟨ps, d.keep _ _ (ne_of hp hs (by intro z; cases z)) hp, t⟩
theorem tg_tab {P P' : Addr} {H H' : Hp} (h : TabG H P) (t : Tabbed P' H H') : TabG H' P := by
  by_cases z : P = P'
  · rw [z]
    exact t.1
  · obtain ⟨ps, hp, tr⟩ := h
    exact ⟨ps, by rw [t.2 P z]; exact hp, tr⟩
theorem tab_trans {P : Addr} {H H1 H2 : Hp} (a : Tabbed P H H1) (b : Tabbed P H1 H2) : Tabbed P H H2 := ⟨b.1, fun c hc => (b.2 c hc).trans (a.2 c hc)⟩
/-- an element that changes nothing: its truth at each place -/
theorem all_pure {J : It} {g : TG} {te : TE} {vs : List Nat} {σw : L2.St} {H2 : Hp} {Qt Qf : Hp → Prop} (n : Nat) (pr : Nat → Bool) (hgo : ∀ i, i < n → J.go i H2) (hstop : J.stop n H2)
    (hs : ∀ i x H', i < n → J.yld i H2 x H' → ∀ (Q' : VK) (B : Hp → Prop), Q' (.bl (pr i)) H2 → g x σw H' fun σ2 H3 => wipe σ2 vs = σw ∧ tYes σ2 H3 fun b H4 => if b = true then te σ2 H4 Q' else B H4)
    (hT : (∀ i, i < n → pr i = true) → Qt H2) (hF : ∀ i, i < n → pr i = false → Qf H2) : ∃ W : Nat → Nat → Hp → Prop, (∃ m, W 0 m H2) ∧ AllTurns J g tYes te vs σw W Qt Qf := by
  refine ⟨fun i m H => m = n - i ∧ i ≤ n ∧ H2 = H ∧ ∀ j, j < i → pr j = true, ⟨n, rfl, Nat.zero_le _, rfl, fun j h => absurd h (Nat.not_lt_zero _)⟩, ?_⟩
  rintro i m H ⟨rfl, hi, rfl, hp⟩
  by_cases h : i < n
  · refine .inr ⟨hgo i h, fun H' => H2 = H' ∧ pr i = true, fun H' hN => ⟨n - (i + 1), by omega, rfl, h, hN.1, fun j hj => ?_⟩, fun x H' hy => hs i x H' h hy _ _ ⟨pr i, rfl, ?_⟩⟩
    · rcases (show j < i ∨ j = i by omega) with z | z
      · exact hp j z
      · rw [z]
        exact hN.2
    · cases hb : pr i with
      | true => exact ⟨rfl, rfl⟩
      | false => exact hF i h hb
  · have e : i = n := by omega
    subst e
    exact .inl ⟨hstop, hT hp⟩
theorem code_at {K : PySem.W.Frag} {x qual : Str} {params : Arguments} {body : List Stmt} {scope : Scope} {p : Str × Option Str} {fd : FuncData} (F : FunD K x qual params body scope [] [] (He.fAd K p) fd) : fd.code = .ref (He.codeOf K p) := by
  obtain ⟨oc, od, dV, kV, doc, pm, an, cdv, ct, osl, rfl, lk, hcd, _, _⟩ := F.ex
  obtain ⟨c, rfl⟩ := He.codeIn_ref hcd
  rw [He.codeOf_eq lk rfl]
/-! ### list(text) -/
def signsV (z : Str) : List V := z.cps.toList.map fun c => V.str ⟨#[c]⟩
def rListStr : List V → Hp → VK → Prop := fun xs H Q => ∃ z : Str, xs = [.str z] ∧ z.length ≤ sizeLine ∧ ∀ l, H l = none → Q (.ref l) (upd H l (.lst (signsV z)))
theorem call_listStr {X : Cx} (hc : X.calm = true) : CallR X (.type "list") rListStr := by
  intro pins s σ H xs us Q I r h
  obtain ⟨z, rfl, hz, q⟩ := h
  obtain ⟨u, rfl, t, rfl⟩ := vals1 r
  refine call_list_str (I.ok.hd hc) z t (fun h' tk acc' c' hk hS hacc => ?_) (hn := hz)
  refine ⟨.ref s.heap.objs.size, upd H s.heap.objs.size (.lst (signsV z)), I.laid hk (Nat.le_refl _) (show ObjOk X.prog X.w _ _ _ (.lst (signsV z)) from ⟨?_, acc'.toList, c', ?_, ?_⟩), rfl, q _ (I.hok.fresh (Nat.le_refl _))⟩
  · unfold signsV
    rw [List.length_map]
    exact hz
  · have el : acc'.toList.length = acc'.size := by simp
    refine vals_of_at (by unfold signsV; rw [List.length_map, el, hacc.1]; simp) fun j x w h1 h2 => ?_
    obtain ⟨cc, u, hcc, rfl⟩ := hacc.2 j w (by rw [← Array.getElem?_toList]; exact h2)
    unfold signsV at h1
    rw [List.getElem?_map, Array.getElem?_toList, hcc] at h1
    cases h1
    exact ⟨u, rfl⟩
  · rw [Array.toArray_toList]
    exact hS
theorem z_listStr {H : Hp} {Q : VK} {z : Str} (hz : z.length ≤ 1000) (q : ∀ p H', H p = none → Same H H' → H' p = some (.lst (signsV z)) → Q (.ref p) H') : rListStr [.str z] H Q :=
  ⟨z, rfl, Nat.le_of_lt (small1000 hz), fun p hp => q p _ hp (fun b u e => by rw [upd_ne (ne_of_none e hp)]; exact e) upd_same⟩
/-! ### texts -/
def rLeS : R2 := fun x y H Q => ∃ i j, x = .str i ∧ y = .str j ∧ Q (.bl (!decide (j.cps.toList < i.cps.toList))) H
theorem op_leS {X : Cx} : OpR X (compareOp .LtE) rLeS := op_le_str
theorem lt1 (a b : Nat) : decide (([a] : List Nat) < [b]) = decide (a < b) := decide_eq_decide.mpr (by
  constructor
  · intro h
    cases h with
    | rel h => exact h
    | cons h => cases h
  · intro h
    exact List.Lex.rel h)
theorem z_leS {H : Hp} {Q : VK} {c d : Nat} (q : Q (.bl (decide (c ≤ d))) H) : rLeS (.str ⟨#[c]⟩) (.str ⟨#[d]⟩) H Q := ⟨_, _, rfl, rfl, by
  have e : (!decide (([d] : List Nat) < [c])) = decide (c ≤ d) := by
    rw [lt1]
    by_cases h : c ≤ d
    · rw [decide_eq_true h, decide_eq_false (by omega)]
      rfl
    · rw [decide_eq_false h, decide_eq_true (by omega)]
      rfl
  show Q (.bl (!decide (([d] : List Nat) < [c]))) H
  rw [e]
  exact q⟩
theorem z_lenS {K : PySem.W.Frag} {H : Hp} {Q : VK} {z : Str} (hz : z.length ≤ 1000) (q : Q (.int z.length) H) : rLenK K [.str z] H Q := ⟨_, z.length, rfl, ⟨Nat.le_of_lt (small1000 hz), rfl⟩, q⟩
def smB (c : Nat) : Bool := decide (97 ≤ c) && decide (c ≤ 122)
def nmB (z : Str) : Bool := decide (1 ≤ z.length) && (decide (z.length ≤ 8) && z.cps.toList.all smB)
/-- what is no whole number -/
inductive NIv (H : Hp) : V → Prop
  | bl (b : Bool) : NIv H (.bl b)
  | non : NIv H .non
  | str (z : Str) : NIv H (.str z)
  | lst {l : Addr} {xs : List V} : H l = some (.lst xs) → NIv H (.ref l)
  | tup {l : Addr} {xs : List V} : H l = some (.tup xs) → NIv H (.ref l)
  | dct {l : Addr} {kvs : List (Key × V)} : H l = some (.dK kvs) → NIv H (.ref l)
theorem NIv.same {H H' : Hp} {v : V} (h : NIv H v) (e : Same H H') : NIv H' v := by
  cases h with
  | bl b => exact .bl b
  | non => exact .non
  | str z => exact .str z
  | lst h => exact .lst (e _ _ h)
  | tup h => exact .tup (e _ _ h)
  | dct h => exact .dct (e _ _ h)
theorem NIv.tab {P : Addr} {H H' : Hp} {v : V} (h : NIv H v) (e : Tabbed P H H') (hP : TabG H P) : NIv H' v := by
  cases h with
  | bl b => exact .bl b
  | non => exact .non
  | str z => exact .str z
  | lst h => exact .lst (tab_get e h (fun _ z => by cases z) hP)
  | tup h => exact .tup (tab_get e h (fun _ z => by cases z) hP)
  | dct h => exact .dct (tab_get e h (fun _ z => by cases z) hP)
/-- the name of a thing's type, for what is no whole number -/
theorem NIv.ty {K : PySem.W.Frag} {H : Hp} {v : V} (h : NIv H v) : ∃ (n : String) (a b : Bool), TyX K H v (.type n) ∧ kitB n "int" = some a ∧ kitB n "bool" = some b ∧ (a && !b) = false := by
  cases h with
  | bl b => exact ⟨"bool", true, true, .base (.bl b), by decide +kernel, by decide +kernel, rfl⟩
  | non => exact ⟨"NoneType", false, false, .base .non, by decide +kernel, by decide +kernel, rfl⟩
  | str z => exact ⟨"str", false, false, .base (.str z), by decide +kernel, by decide +kernel, rfl⟩
  | lst h => exact ⟨"list", false, false, .base (.lst h), by decide +kernel, by decide +kernel, rfl⟩
  | tup h => exact ⟨"tuple", false, false, .base (.tup h), by decide +kernel, by decide +kernel, rfl⟩
  | dct h => exact ⟨"dict", false, false, .base (.dK h), by decide +kernel, by decide +kernel, rfl⟩
def inFar (n : Int) : Bool := decide (-1000000000000 ≤ n) && decide (n ≤ 1000000000000)
/-- a number within the bounds, or not -/
def OwnV (H : Hp) (x : V) (k : Bool) : Prop := (∃ n, x = .int n ∧ k = inFar n) ∨ (k = false ∧ NIv H x)
theorem OwnV.tab {P : Addr} {H H' : Hp} {v : V} {k : Bool} (h : OwnV H v k) (e : Tabbed P H H') (hP : TabG H P) : OwnV H' v k := by
  rcases h with h | ⟨h1, h2⟩
  · exact .inl h
  · exact .inr ⟨h1, h2.tab e hP⟩
theorem joinS_len : ∀ ys : List Str, (∀ y ∈ ys, y.length ≤ 1) → (Str.join "" ys).length ≤ ys.length
  | [], _ => Nat.le_refl _
  | [y], h => h y (by simp)
  | x :: z :: r, h => by
    have ih := joinS_len (z :: r) fun y hy => h y (List.mem_cons_of_mem _ hy)
    show (x ++ "" ++ Str.join "" (z :: r)).length ≤ _
    rw [Str.length_append, Str.length_append]
    have h1 := h x (by simp)
    have h0 : ("" : Str).length = 0 := rfl
    simp only [List.length_cons] at ih ⊢
    omega
theorem join_len {ys : List Str} (h : ∀ y ∈ ys, y.length ≤ 1) : (Txt.join "" ys).length ≤ ys.length := by
  rw [TL.join_eq]
  exact joinS_len ys h
theorem cutS_len (z : Str) (lo hi : Option Int) : (cutS z lo hi).length ≤ z.length := by
  unfold cutS
  show (List.toArray _).size ≤ _
  rw [List.size_toArray, List.length_take, List.length_drop]
  have : z.cps.toList.length = z.length := by simp [Str.length]
  omega
theorem sum_ones : ∀ {ys : List Str}, (∀ y ∈ ys, y.length ≤ 1) → (ys.map (·.length)).sum ≤ ys.length
  | [], _ => Nat.le_refl _
  | y :: r, h => by
    have ih := sum_ones (ys := r) fun z hz => h z (List.mem_cons_of_mem _ hz)
    have h1 := h y (by simp)
    simp only [List.map_cons, List.sum_cons, List.length_cons]
    omega
theorem z_cutS {H : Hp} {Q : VK} {z : Str} {lo hi : Option Int} (hz : z.length ≤ 1000) (q : Q (.str (cutS z lo hi)) H) : rSlS (.str z) lo hi H Q := ⟨z, rfl, Nat.le_of_lt (small1000 hz), q⟩
/-! ### lists of ints as data -/
theorem dpInts {K : PySem.W.Frag} {H : Hp} : ∀ ns : List Int, DpAll K H (ns.map V.int) (ns.map PyData.int)
  | [] => .nil
  | n :: r => .cons (.int n) (dpInts r)
theorem eqv_nil (ns : List Int) : PyData.eqv (.list (ns.map PyData.int)) (.list []) = ns.isEmpty := by
  cases ns with
  | nil => rfl
  | cons n r => simp [PyData.eqv, PyData.eqvAll]
theorem sh_ints {ns : List Int} (h : ns.length ≤ 4) : SeqAt.shaped (.list (ns.map PyData.int)) = true := by
  rcases ns with _ | ⟨a, _ | ⟨b, _ | ⟨c, _ | ⟨d, _ | ⟨e, r⟩⟩⟩⟩⟩
  · rfl
  · rfl
  · rfl
  · rfl
  · rfl
  · simp at h
theorem NIv.dr {s : Addr} {H H' : Hp} {v : V} (h : NIv H v) (d : Dr s H H') (n : v ≠ .ref s) : NIv H' v := by
  cases h with
  | bl b => exact .bl b
  | non => exact .non
  | str z => exact .str z
  | lst h => exact .lst (d.keep _ _ (fun z => n (by rw [z])) h)
  | tup h => exact .tup (d.keep _ _ (fun z => n (by rw [z])) h)
  | dct h => exact .dct (d.keep _ _ (fun z => n (by rw [z])) h)
theorem z_tupleL {K : PySem.W.Frag} {H : Hp} {Q : VK} {p : Addr} {xs : List V} (h : H p = some (.lst xs)) (q : ∀ p' H', H p' = none → Same H H' → H' p' = some (.tup xs) → Q (.ref p') H') : rTupleK K [.ref p] H Q :=
  ⟨p, xs, rfl, .inl ⟨SqL.of h, fun p' hp => q p' _ hp (fun b u e => by rw [upd_ne (ne_of_none e hp)]; exact e) upd_same⟩⟩
/-- everything but tables is kept -/
def Kp (H H' : Hp) : Prop := ∀ b o, (∀ ps, o ≠ .tbl ps) → H b = some o → H' b = some o
theorem Kp.of_same {H H' : Hp} (e : Same H H') : Kp H H' := fun b o _ h => e b o h
theorem Kp.of_tab {P : Addr} {H H' : Hp} (e : Tabbed P H H') (hP : TabG H P) : Kp H H' := fun b o n h => tab_get e h n hP
theorem Kp.trans {H H1 H2 : Hp} (a : Kp H H1) (b : Kp H1 H2) : Kp H H2 := fun c o n h => b c o n (a c o n h)
theorem Kp.refl (H : Hp) : Kp H H := fun _ _ _ h => h
theorem Kp.tup {H H' : Hp} {b : Addr} {xs : List V} (a : Kp H H') (h : H b = some (.tup xs)) : H' b = some (.tup xs) := a _ _ (fun _ z => by cases z) h
theorem Kp.lst {H H' : Hp} {b : Addr} {xs : List V} (a : Kp H H') (h : H b = some (.lst xs)) : H' b = some (.lst xs) := a _ _ (fun _ z => by cases z) h
theorem Kp.dct {H H' : Hp} {b : Addr} {xs : List (Key × V)} (a : Kp H H') (h : H b = some (.dK xs)) : H' b = some (.dK xs) := a _ _ (fun _ z => by cases z) h
theorem Src.kp {H H' : Hp} {s : Addr} (h : Src H s) (a : Kp H H') : Src H' s := by
  obtain ⟨x, y, z, h⟩ := h
  exact ⟨x, y, z, a.lst h⟩
theorem NIv.kp {H H' : Hp} {v : V} (h : NIv H v) (a : Kp H H') : NIv H' v := by
  cases h with
  | bl b => exact .bl b
  | non => exact .non
  | str z => exact .str z
  | lst h => exact .lst (a.lst h)
  | tup h => exact .tup (a.tup h)
  | dct h => exact .dct (a.dct h)
theorem OwnV.kp {H H' : Hp} {v : V} {k : Bool} (h : OwnV H v k) (a : Kp H H') : OwnV H' v k := by
  rcases h with h | ⟨h1, h2⟩
  · exact .inl h
  · exact .inr ⟨h1, h2.kp a⟩
theorem z_disp1 {σ : L2.St} {H : Hp} {Q : VK} {ta tb : TE} {k : Key} {v : V} (ha : ∀ (H' : Hp) (Q' : VK), Q' (kV k) H' → ta σ H' Q') (hb : ∀ (H' : Hp) (Q' : VK), Q' v H' → tb σ H' Q')
    (q : ∀ p H' kvs, H p = none → Same H H' → H' p = some (.dK kvs) → Q (.ref p) H') : tDisp [(ta, tb)] σ H Q := fun p hp => by
  refine ha _ _ (hb _ _ ⟨upd_same, [(k, v)], rfl, by simp, q p _ _ hp (fun b u e => ?_) upd_same⟩)
  have n := ne_of_none e hp
  rw [upd_ne n, upd_ne n]
  exact e
end Zk
set_option Elab.async false
set_option linter.all false
set_option maxRecDepth 100000
set_option maxHeartbeats 2000000
/-! tuple(.. for .. in ..): the list that gathers the items is tracked, as in a list comprehension. -/
namespace Zk
open PySem PySem.Spec PyProof.Rows L2 GenW GxR
section
variable {X : Cx} {pins : List (Addr × Obj)} {σ : L2.St} {H : Hp} {s : Shared}
/-- an item was put behind the list at S -/
def Pushed (G : Cx) (S : Addr) (xs : List V) (y : V) (s s'' : Shared) : Prop := ∀ pins σ H, Inv G pins σ H s → H S = some (.lst xs) → Inv G pins σ (upd H S (.lst (xs ++ [y]))) s''
def YTup (G : Cx) (p0 : List (Addr × Obj)) (S : Addr) : Protocol := fun _ _ v s kap =>
  ∃ (σ2 : L2.St) (H : Hp) (xs : List V) (y : V), RelV y v ∧ Inv G p0 σ2 H s ∧ H S = some (.lst xs) ∧ xs.length < sizeLine ∧ ∀ s'', Pushed G S xs y s s'' → kap (.send .none) s''
def FTup (G : Cx) (p0 : List (Addr × Obj)) (Qe : Hp → Prop) : Nat → Shared → Shared → Prop := fun _ _ s => ∃ (σ2 : L2.St) (H : Hp), Inv G p0 σ2 H s ∧ Qe H
def RTup (G : Cx) (p0 : List (Addr × Obj)) (Qe : Hp → Prop) : GenEnd := fun n s₀ r s₁ => ((r = .ok (.ret .none) ∨ r = .ok .next) ∧ FTup G p0 Qe n s₀ s₁) ∨ ∃ e, r = .error e ∧ (fun (_ : Value) (_ : Shared) => False) e s₁
/-- what the loop's turns ask -/
def TupTurns (J : It) (g : TG) (tt : TT) (te : TE) (vs : List Nat) (σw : L2.St) (S : Addr) (W : Nat → Nat → Hp → Prop) (Qe : Hp → Prop) : Prop :=
  ∀ i m H, W i m H → (J.stop i H ∧ Qe H) ∨ (J.go i H ∧ ∃ Nx : Hp → Prop, (∀ H', Nx H' → ∃ m', m' < m ∧ W (i + 1) m' H') ∧ ∀ x H', J.yld i H x H' → g x σw H' fun σ2 H2 => wipe σ2 vs = σw ∧ tt σ2 H2 fun b H3 =>
    if b = true then te σ2 H3 fun y H4 => ∃ xs, H4 S = some (.lst xs) ∧ xs.length < sizeLine ∧ Nx (upd H4 S (.lst (xs ++ [y]))) else Nx H3)
theorem seg_tup {elt tg iter : Expr} {ifs : List Expr} {scope : Scope} {pos : Pos} {it S : Addr} {fp : List Addr} {tn : Nat → Heap → Prop} {J : It} {W : Nat → Nat → Hp → Prop} {σw : L2.St} {vs : List Nat} {A : Around} {cenv : Env} {s3 : Shared} {H3 : Hp} {p0 : List (Addr × Obj)} {Qe : Hp → Prop} {g : TG} {tt : TT} {te : TE}
    (hc : X.calm = true) (hco : cenv.scope.isCoroutine = false) (T : Turn X.prog X.w X.K tg J fp it tn) (hp0 : ∀ p ∈ p0, p.1 ∉ fp)
    (pg : PG (gen X s3 H3 cenv fp (A.deeper cenv)) tg g) (pt : PTs (gen X s3 H3 cenv fp (A.deeper cenv)) ifs tt) (pe : PE (gen X s3 H3 cenv fp (A.deeper cenv)) elt te) (turn : TupTurns J g tt te vs σw S W Qe) :
    ∀ (m i n : Nat) (s₀ s : Shared) (H : Hp), m < n → Inv (gen X s3 H3 cenv fp (A.deeper cenv)) p0 σw H s → tn i s.heap → (∀ b ∈ fp, H b = none) → W i m H →
      Seg (model X.prog X.w) A (RTup (gen X s3 H3 cenv fp (A.deeper cenv)) p0 Qe) (YTup (gen X s3 H3 cenv fp (A.deeper cenv)) p0 S) n s₀ (.compLoop (.GeneratorExp elt [⟨tg, iter, ifs, 0⟩] scope pos) 0 (.ref it) .none cenv)
        ((model X.prog X.w).den (.compLoop (.GeneratorExp elt [⟨tg, iter, ifs, 0⟩] scope pos) 0 (.ref it) .none cenv)) [] s := by
  have ov : A.over (.compLoop (.GeneratorExp elt [⟨tg, iter, ifs, 0⟩] scope pos) 0 (.ref it) .none cenv) [] = A.deeper cenv := over_comp ⟨_, _, _, _, rfl⟩
  have stat : ∀ {σ' : L2.St} {H' : Hp} {s' : Shared}, Inv (gen X s3 H3 cenv fp (A.deeper cenv)) p0 σ' H' s' → (∀ b ∈ fp, H' b = none) → ∀ b ∈ fp, FpOk (gen X s3 H3 cenv fp (A.deeper cenv)) p0 H' b := fun {σ' H' s'} I' hn b hb =>
    ⟨hn b hb, (I'.ok.exf b hb).1, I'.ok.exfs b hb, .inl hb, fun x c e => (I'.ok.exf b hb).2 x c e, fun p hp z => by
      rcases List.mem_append.mp hp with hp | hp
      · cases hp
      · exact hp0 p hp (z ▸ hb)⟩
  intro m
  induction m using Nat.strongRecOn with
  | ind m ih =>
    intro i n s₀ s H hmn I st nf w
    obtain ⟨n, rfl⟩ : ∃ k, n = k + 1 := ⟨n - 1, by omega⟩
    show Seg _ A _ _ _ s₀ _ ((compTurn (.GeneratorExp elt [⟨tg, iter, ifs, 0⟩] scope pos) 0 (.ref it) .none cenv).onRaise (leaving cenv)) [] s
    rw [compTurn_gen, Sem.onRaise_eq_wrap]
    refine seg_bind_wrap (wpAny_standAt ?_)
    rcases turn i m H w with ⟨stop, qq⟩ | ⟨go, Nx, hNx, step⟩
    · have td := T.done (gen X s3 H3 cenv fp (A.deeper cenv)) rfl rfl rfl hc i p0 s _ H (fun _ _ => False) I (stat I nf) st stop
      refine seg_bind_wrap ?_
      rw [ov]
      refine thnF td fun r s6 ⟨hr, I6⟩ => ?_
      subst hr
      exact seg_end (.ok .next) (.inl ⟨.inr rfl, _, _, I6, qq⟩)
    · have ti := T.item (gen X s3 H3 cenv fp (A.deeper cenv)) rfl rfl rfl hc i p0 s _ H (fun _ _ => False) I (stat I nf) st go
      refine seg_bind_wrap ?_
      rw [ov]
      refine thnF ti fun r s6 ⟨u, hr, h6⟩ => ?_
      subst hr
      refine seg_bind_wrap ?_
      rw [ov]
      refine thnF h6 fun _ s7 ⟨x, H7, I7, r7, y7, st7, n7⟩ => ?_
      have I7' := I7.pinned (stat I7 n7) (T.obj _ _ st7)
      refine seg_bind_wrap ?_
      rw [ov]
      refine thnF (pg.run _ s7 _ H7 x u _ I7' r7 (step x H7 y7)) fun _ s8 ⟨σ8, H8, I8, hw8, q8⟩ => ?_
      refine seg_bind_wrap ?_
      rw [ov]
      refine thnF (pt.run _ s8 σ8 H8 _ I8 q8) fun b s9 ⟨H9, I9, q9⟩ => ?_
      have fin : ∀ {s' : Shared} {H' : Hp} {n' : Nat} {s0' : Shared}, Inv (gen X s3 H3 cenv fp (A.deeper cenv)) (p0 ++ pinsAt fp s7.heap) σ8 H' s' → Nx H' → m ≤ n' →
          Seg (model X.prog X.w) A (RTup (gen X s3 H3 cenv fp (A.deeper cenv)) p0 Qe) (YTup (gen X s3 H3 cenv fp (A.deeper cenv)) p0 S) n' s0' (.compLoop (.GeneratorExp elt [⟨tg, iter, ifs, 0⟩] scope pos) 0 (.ref it) .none cenv)
            ((model X.prog X.w).den (.compLoop (.GeneratorExp elt [⟨tg, iter, ifs, 0⟩] scope pos) 0 (.ref it) .none cenv)) [] s' := fun {s' H' n' s0'} I' nx hn' => by
        obtain ⟨m', hm, w'⟩ := hNx H' nx
        have pin' : ∀ b ∈ fp, ∀ o, s7.heap.get? b = some o → s'.heap.get? b = some o ∧ H' b = none := fun b hb o e =>
          let z := I'.pin (b, o) (List.mem_append_right _ (List.mem_append_right _ (mem_pinsAt hb e)))
          ⟨z.1, z.2.1⟩
        have hl : σw.length = σ8.length := by rw [← hw8, wipe_length]
        refine ih m' hm (i + 1) n' s0' s' H' (by omega) ((I'.unpinned (pins := p0)).weak hl (fun j v e => ?_)) (T.keep _ _ _ st7 fun b hb o e => (pin' b hb o e).1) (fun b hb => ?_) w'
        · rw [← hw8] at e
          exact (wipe_some e).1
        · obtain ⟨o, e, _⟩ := T.obj _ _ st7 b hb
          exact (pin' b hb o e).2
      cases b with
      | false =>
        simp only [Bool.false_eq_true, if_false] at q9 ⊢
        exact seg_again rfl (fin I9 q9 (by omega))
      | true =>
        simp only [if_true] at q9 ⊢
        have hy : ∀ v, yieldOut cenv v = yieldValue v := fun v => by simp only [yieldOut, hco, Bool.false_eq_true, if_false]
        simp only [hy]
        rw [Sem.bind_eq_wrap', Sem.bind_eq_wrap', Sem.wrap_wrap, Sem.wrap_wrap]
        refine seg_wrap ?_
        rw [ov]
        refine thnF (pe.run _ s9 σ8 H9 _ I9 q9) fun z s10 ⟨yv, H10, I10, r10, xs, hxs, hlt, nx⟩ => ?_
        refine seg_at (seg_yield rfl rfl rfl ⟨σ8, H10, xs, yv, r10, I10.unpinned, hxs, hlt, fun s'' wk => ?_⟩)
        exact seg_again rfl (fin (wk _ _ _ I10 hxs) nx (by omega))
theorem seg_tupStart {elt tg iter : Expr} {ifs : List Expr} {scope : Scope} {pos : Pos} {it S : Addr} {fp : List Addr} {tn : Nat → Heap → Prop} {J : It} {W : Nat → Nat → Hp → Prop} {σw : L2.St} {vs : List Nat} {A : Around} {cenv : Env} {s3 : Shared} {H3 : Hp} {p0 : List (Addr × Obj)} {Qe : Hp → Prop} {g : TG} {tt : TT} {te : TE}
    (hc : X.calm = true) (hco : cenv.scope.isCoroutine = false) (T : Turn X.prog X.w X.K tg J fp it tn) (hp0 : ∀ p ∈ p0, p.1 ∉ fp)
    (pg : PG (gen X s3 H3 cenv fp (A.deeper cenv)) tg g) (pt : PTs (gen X s3 H3 cenv fp (A.deeper cenv)) ifs tt) (pe : PE (gen X s3 H3 cenv fp (A.deeper cenv)) elt te) (turn : TupTurns J g tt te vs σw S W Qe)
    (m n : Nat) (s₀ s : Shared) (H : Hp) (hmn : m < n) (I : Inv (gen X s3 H3 cenv fp (A.deeper cenv)) p0 σw H s) (st : tn 0 s.heap) (nf : ∀ b ∈ fp, H b = none) (w : W 0 m H) :
      Seg (model X.prog X.w) A (RTup (gen X s3 H3 cenv fp (A.deeper cenv)) p0 Qe) (YTup (gen X s3 H3 cenv fp (A.deeper cenv)) p0 S) n s₀ (.compStart (.GeneratorExp elt [⟨tg, iter, ifs, 0⟩] scope pos) 0 (.ref it) .none cenv)
        ((model X.prog X.w).den (.compStart (.GeneratorExp elt [⟨tg, iter, ifs, 0⟩] scope pos) 0 (.ref it) .none cenv)) [] s := by
  have loop := fun s₀ => seg_tup (iter := iter) (scope := scope) (pos := pos) hc hco T hp0 pg pt pe turn m 0 n s₀ s H hmn I st nf w
  show Seg _ A _ _ _ s₀ _ ((compStart (.GeneratorExp elt [⟨tg, iter, ifs, 0⟩] scope pos) 0 (.ref it) .none cenv).onRaise (leaving cenv)) [] s
  unfold compStart
  rw [Sem.onRaise_eq_wrap]
  show Seg _ A _ _ _ s₀ _ ((ask >>= _).wrap _ _ _ _) [] s
  refine seg_bind_wrap (wpAny_askSetting ?_)
  split
  · exact seg_again rfl (loop s₀)
  · first
      | exact seg_bind_wrap (wpAny_rule (seg_bind_wrap (wpAny_standAt (seg_bind_wrap (T.self _ 0 s _ _ st (seg_again rfl (loop s₀)))))))
      | (refine seg_bind_wrap (wpAny_rule ?_); show Seg _ A _ _ _ s₀ _ ((standAt iter.pos >>= _).wrap _ _ _ _) [] s; exact seg_bind_wrap (wpAny_standAt (seg_bind_wrap (T.self _ 0 s _ _ st (seg_again rfl (loop s₀))))))
theorem mapSeq_push (its : List Value) (n : Nat) (u : Value) : ∃ n', Obj.mapSeq (·.push u) { cls := .type "list", data := .seq its.toArray n } = { cls := .type "list", data := .seq (its ++ [u]).toArray n' } := by
  rw [show (its ++ [u]).toArray = its.toArray.push u by simp]
  exact ⟨_, rfl⟩
theorem collect_mono {M : Model} {A : Around} {v : Value} {Q Q' : List Value → Shared → Prop} {E E' : Value → Shared → Prop} {s : Shared} (h : wpAny M A (collect v) Q E s) (hE : ∀ e s', E e s' → E' e s') (hq : ∀ xs s', Q xs s' → Q' xs s') : wpAny M A (collect v) Q' E' s := wpAny_mono h hq hE
/-- the loop that gathers -/
theorem tup_loop {G : Cx} {p0 : List (Addr × Obj)} {Qe : Hp → Prop} {A : Around} {R : Result → Shared → Prop} {a S : Addr} {g : Nat} {oa : Obj} {res : Value} (hh : A.handled = none) (hd : A.depth < recursionLimit)
    (hpa : (a, oa) ∈ p0) (hga : ∀ h : Heap, h.get? a = some oa → h.IsGen a g)
    (hT : ∀ s1 s' σ2 H, Inv G p0 σ2 H s1 → Qe H → Woken s1 s' → R (.ok (.ret res)) s') :
    ∀ (n : Nat) (s : Shared), s.heap.IsGen a g → s.heap.NoLimit →
      (∃ gs, s.gens[g]? = some gs ∧ gs.Goes (model G.prog G.w) A.in1.in1 (RTup G p0 Qe) (YTup G p0 S) n (.send .none) (s.setGen g .running)) →
      codeAny (model G.prog G.w) A (.builtin "list.extend.loop" ⟨[.ref S, .ref a, res], []⟩) R s := by
  have upd1 : ∀ {s₁ s'' : Shared} {σ2 : L2.St} {H : Hp} {xs : List V} {y : V} {v : Value} {its : List Value} {nn : Nat}, Inv G p0 σ2 H s₁ → RelV y v → Vals xs its → s₁.heap.get? S = some { cls := .type "list", data := .seq its.toArray nn } → xs.length < sizeLine →
      s''.heap = s₁.heap.update S (Obj.mapSeq (·.push v)) → s''.os = s₁.os → AllBare s''.gens → Pushed G S xs y s₁ s'' := fun {s₁ s'' σ2 H xs y v its nn} _ ry r ho hlt e1 e2 e3 pins σ H0 I0 h0 => by
    obtain ⟨n', hf⟩ := mapSeq_push its nn v
    exact inv_woken (I0.lstUpd h0 ho hf (r.append (.cons ry .nil)) (by rw [List.length_append]; exact hlt) s₁.toks) ⟨e2, e3, fun b o e => by rw [e1]; exact e⟩
  intro n
  induction n with
  | zero =>
    intro s hg hl ⟨gs, hgs, hgo⟩
    refine codeAny_builtin F.entry_extend_loop ?_
    rw [Around.under_plainId F.plain_extend_loop _]
    show wpAny _ A.in1 (pyNext (.ref a) >>= _) _ _ s
    refine wpAny_bind (next_genG (A := A.in1) (F := FTup G p0 Qe) (Er := fun _ _ => False) hh hl hd hg hgs hgo (fun v s₁ gs' hbare hv => ?_) (fun s₁ hp h' hk => ?_) fun e s₁ he => he.elim)
    · obtain ⟨σ2, H, xs, y, ry, I, hS, hlt, hk⟩ := hv
      obtain ⟨its, nn, r, ho, hz⟩ := I.lst hS
      exact False.elim (hk { s₁ with heap := s₁.heap.update S (Obj.mapSeq (·.push v)) } (upd1 I ry r ho hlt rfl rfl I.bare))
    · obtain ⟨σ2, H, I, hq⟩ := hp
      exact wpAny_pure (hT s₁ _ σ2 H I hq ⟨rfl, allBare_setGen I.bare rfl, hk⟩)
  | succ n ih =>
    intro s hg hl ⟨gs, hgs, hgo⟩
    have hgl : g < s.gens.size := (Array.getElem?_eq_some_iff.mp hgs).1
    refine codeAny_builtin F.entry_extend_loop ?_
    rw [Around.under_plainId F.plain_extend_loop _]
    show wpAny _ A.in1 (pyNext (.ref a) >>= _) _ _ s
    refine wpAny_bind (wpAny_gsz (n := g + 1) hgl (next_genG (A := A.in1) (F := FTup G p0 Qe) (Er := fun _ _ => False) hh hl hd hg hgs hgo (fun v s₁ gs' hbare hv => ?_) (fun s₁ hp h' hk => ?_) fun e s₁ he => he.elim))
    · intro hsz
      obtain ⟨σ2, H, xs, y, ry, I, hS, hlt, hk⟩ := hv
      obtain ⟨its, nn, r, ho, hz⟩ := I.lst hS
      have hsz1 : g < s₁.gens.size := by
        have q : (s₁.setGen g gs').gens.size = s₁.gens.size := setGen_size _ _ _
        have hsz' : g + 1 ≤ (s₁.setGen g gs').gens.size := hsz
        omega
      have hlen := r.length
      have I1 : Inv G p0 σ2 (upd H S (.lst (xs ++ [y]))) { s₁ with heap := s₁.heap.update S (Obj.mapSeq (·.push v)) } := upd1 (s'' := { s₁ with heap := s₁.heap.update S (Obj.mapSeq (·.push v)) }) I ry r ho hlt rfl rfl I.bare _ _ _ I hS
      show wpAny _ A.in1 (updateSeq S (·.push v) >>= _) _ _ _
      refine wpAny_bind ?_
      refine wpAny_updateSeq (s := s₁.setGen g gs') ho rfl (wpAny_pure ⟨plainId_quiet F.plain_extend_loop _, ?_⟩) (by simp only [List.size_toArray]; omega) (by show (its.toArray.push v).size ≤ sizeLine + 1; rw [Array.size_push, List.size_toArray]; omega)
      refine ih { s₁.setGen g gs' with heap := s₁.heap.update S (Obj.mapSeq (·.push v)) } (hga _ (I1.pin (a, oa) (List.mem_append_right _ hpa)).1) I1.nolimit ⟨gs', setGen_at hsz1, hk _ (upd1 I ry r ho hlt rfl rfl (allBare_setGen (s := { s₁.setGen g gs' with heap := _ }) (allBare_setGen I.bare hbare) rfl))⟩
    · intro hsz
      obtain ⟨σ2, H, I, hq⟩ := hp
      exact wpAny_pure (hT s₁ _ σ2 H I hq ⟨rfl, allBare_setGen I.bare rfl, hk⟩)
/-- collect of such a generator -/
theorem collect_genX {G : Cx} {p0 : List (Addr × Obj)} {Qe : Hp → Prop} {A : Around} {Q : List Value → Shared → Prop} {E : Value → Shared → Prop} {a : Addr} {g : Nat} {oa : Obj} {s : Shared} (hh : A.handled = none) (hd : A.depth < recursionLimit)
    (hpa : (a, oa) ∈ p0) (hga : ∀ h : Heap, h.get? a = some oa → h.IsGen a g) (ha : s.heap.get? a = some oa) (hl : s.heap.NoLimit)
    (go : ∀ (h' : Heap) (c : Nat), (∀ b o, s.heap.get? b = some o → h'.get? b = some o) → h'.get? s.heap.objs.size = some { cls := .type "list", data := .seq ([] : List Value).toArray c } →
      ∃ gs n, s.gens[g]? = some gs ∧ gs.Goes (model G.prog G.w) A.in1.in1 (RTup G p0 Qe) (YTup G p0 s.heap.objs.size) n (.send .none) (({ s with heap := h' } : Shared).setGen g .running))
    (hQ : ∀ s1 s' σ2 H, Inv G p0 σ2 H s1 → Qe H → Woken s1 s' → ∃ its n, s'.heap.get? s.heap.objs.size = some { cls := .type "list", data := .seq (its : List Value).toArray n } ∧ Q its s') :
    wpAny (model G.prog G.w) A (collect (.ref a)) Q E s := by
  have hSa : s.heap.objs.size ≠ a := Nat.ne_of_gt (Heap.lt_size ha)
  unfold collect
  refine wpAny_bind (wpAny_runValue (codeAny_builtin F.entry_proto_collect ?_))
  rw [Around.under_plainId F.plain_proto_collect _]
  show wpAny _ A.in1 (newList [] >>= fun l => again (.builtin "list.__iadd__" ⟨[l, .ref a], []⟩)) _ _ s
  refine wpAny_bind (wpAny_newObj_type ?_)
  refine wpAny_pure ⟨plainId_quiet F.plain_list_iadd _, codeAny_builtin F.entry_list_iadd ?_⟩
  rw [Around.under_plainId F.plain_list_iadd _]
  have k1 : ∀ b o, s.heap.get? b = some o → (s.heap.push { cls := .type "list", data := .seq ([] : List Value).toArray }).get? b = some o := fun b o e => Heap.get?_push_of_some _ e
  have gty : ∀ {h : Heap}, (∀ b o, s.heap.get? b = some o → h.get? b = some o) → h.IsGen a g := fun {h} q => hga h (q _ _ ha)
  show wpAny _ A.in1 (Builtin.List.listExtendWith (.ref s.heap.objs.size) (.ref a) (.ref s.heap.objs.size)) _ _ _
  unfold Builtin.List.listExtendWith
  refine wpAny_bind (wpAny_typeOf (Heap.IsGen.typeIs (s := { s with heap := _ }) (gty k1)) ?_)
  have h1 : Builtin.List.listSameRef (.ref s.heap.objs.size) (.ref a) = false := by simp [Builtin.List.listSameRef, hSa]
  have h2 : (Value.type "generator" == Value.type "list") = false := by decide
  have h3 : (Value.type "generator" == Value.type "tuple") = false := by decide
  simp only [h1, h2, h3, Bool.or_false, Bool.false_eq_true, if_false]
  refine wpAny_bind (wpAny_pyIter_gen (s := { s with heap := _ }) (gty k1) ?_)
  refine wpAny_bind (wpAny_holding ?_)
  unfold Builtin.List.listLengthHint
  refine wpAny_bind (wpAny_specialOf (Heap.IsGen.typeIs (s := { s with heap := _ }) (gty k1)) F.gen_no_len ?_)
  show wpAny _ A.in1 (specialOf (Value.ref a) (Str.ofString "__length_hint__") >>= _) _ _ _
  refine wpAny_bind (wpAny_specialOf (Heap.IsGen.typeIs (s := { s with heap := _ }) (gty k1)) F.gen_no_hint ?_)
  refine wpAny_pure ?_
  show wpAny _ A.in1 (rule "list.extend.makes-room" >>= fun _ => Builtin.List.listTouch (.ref s.heap.objs.size) >>= fun _ =>
    again (.builtin "list.extend.loop" ⟨[.ref s.heap.objs.size, .ref a, .ref s.heap.objs.size], []⟩)) _ _ _
  refine wpAny_bind (wpAny_rule ?_)
  have hS₁ : (s.heap.push { cls := .type "list", data := .seq ([] : List Value).toArray }).get? s.heap.objs.size = some { cls := .type "list", data := .seq ([] : List Value).toArray } := Heap.get?_push_size _ rfl
  refine wpAny_bind ?_
  show wpAny _ A.in1 (updateSeq s.heap.objs.size (·.push .none) >>= fun _ => updateSeq s.heap.objs.size (·.pop)) _ _ _
  refine wpAny_bind (wpAny_updateSeq hS₁ rfl ?_)
  have hS₂ := Heap.get?_update_self (Obj.mapSeq (·.push Value.none)) hS₁ rfl
  refine wpAny_updateSeq hS₂ rfl ?_
  have hS₃ := Heap.get?_update_self (Obj.mapSeq (·.pop)) hS₂ rfl
  have up : ∀ (h : Heap) (f : Obj → Obj), (∀ b o, s.heap.get? b = some o → h.get? b = some o) → ∀ b o, s.heap.get? b = some o → (h.update s.heap.objs.size f).get? b = some o := fun h f q b o e =>
    (Heap.get?_update_other _ _ (Ne.symm (Nat.ne_of_lt (Heap.lt_size e)))).trans (q b o e)
  have k3 := up _ (Obj.mapSeq (·.pop)) (up _ (Obj.mapSeq (·.push Value.none)) k1)
  obtain ⟨gs, n, g1, g2⟩ := go _ _ k3 hS₃
  refine wpAny_pure ⟨plainId_quiet F.plain_extend_loop _, tup_loop (G := G) (p0 := p0) (A := A) (Qe := Qe) hh hd hpa hga (fun s1 s' σ2 H I1 hq wk => ?_) n _ (gty k3) (hl.keeps k3) ⟨gs, g1, g2⟩⟩
  obtain ⟨its, nn, hS', q⟩ := hQ s1 s' σ2 H I1 hq wk
  show wpAny _ A (load s.heap.objs.size >>= _) _ _ s'
  refine wpAny_bind (wpAny_load hS' ?_)
  refine wpAny_pure ?_
  have e : its.toArray.toList = its := by simp
  show Q its.toArray.toList s'
  rw [e]
  exact q
theorem code_tuple_newX {prog : Program} {w : World} {A : Around} {E : Value → Shared → Prop} {s : Shared} {a : Addr} {Q₁ : Value → Shared → Prop} (hTI : s.TypeIs (.ref a) "generator")
    (hc : wpAny (model prog w) A.in1 (collect (.ref a)) (fun xs s' => xs.length ≤ sizeLine ∧ Q₁ (.ref s'.heap.objs.size) { s' with heap := s'.heap.push { cls := .type "tuple", data := .seq xs.toArray } }) E s) :
    codeAny (model prog w) A (.call (.builtin "tuple.__new__") ⟨[.type "tuple", .ref a], []⟩) (wants Q₁ E) s := by
  refine codeAny_of_tree ?_
  show wpAny _ A.in1 (do checkBuiltinCall "tuple.__new__" ⟨[.type "tuple", .ref a], []⟩; again (.builtin "tuple.__new__" ⟨[.type "tuple", .ref a], []⟩)) _ _ s
  refine wpAny_bind (wpAny_of_eq (F.newCall_tuple_1 _) (wpAny_pure ⟨plainId_quiet F.plain_tuple_new _, codeAny_builtin F.entry_tuple_new ?_⟩))
  rw [Around.under_plainId F.plain_tuple_new _]
  have hsub := sub_tuple_self
  have hinit := init_tuple_lookup
  have hmh := madeHere_tuple
  wp_walk using wpAny_typeOf hTI, collect_mono hc (fun e s' h => h)
  intro xs s' h
  show wpAny _ _ (Builtin.Tuple.tupleExact xs.toArray >>= fun v => ret v) _ _ _
  unfold Builtin.Tuple.tupleExact
  refine wpAny_bind (wpAny_newObj_type ?_ (by show xs.toArray.size ≤ sizeLine; rw [List.size_toArray]; exact h.1))
  exact wpAny_pure h.2
/-- tuple(e for x in ..): as a list comprehension, the list at D; a new tuple of it -/
def tTupG (P : Addr) (wi : TI) (g : TG) (tt : TT) (te : TE) (vs : List Nat) : TE := fun σ H Q => wi σ H fun J H1 => TabG H1 P ∧ ∀ H2, Tabbed P H1 H2 → ∀ D, H2 D = none →
  ∃ W : Nat → Nat → Hp → Prop, (∃ m, W 0 m (upd H2 D (.lst []))) ∧ TupTurns J g tt te vs (wipe σ vs) D W (fun H => ∃ xs, H D = some (.lst xs) ∧ ∀ p, H p = none → Q (.ref p) (upd H p (.tup xs)))
theorem pe_tupG {c P : Addr} {elt tg iter : Expr} {ifs : List Expr} {scope : Scope} {own : List (Str × Nat)} {p pos gpos : Pos} {wi : TI} {g : TG} {tt : TT} {te : TE} {k : Nat}
    (hr : Room (k + 6) X.A) (hgl : Gl X "tuple") (hm : X.mg "tuple" = none) (TB : TabB X.base X.mg c P) (hcode : X.env.code = .ref c) (hc : X.calm = true) (hN : X.N.Nodup) (hi : PI X tg iter wi) (ok : BlkOk X.N X.env.scope scope own) (S : GScp scope)
    (hg : ∀ (s : Shared) (H : Hp) (C : Addr) (cl : List (Str × Addr)) (code : Value) (fp : List Addr) (A : Around), Room k A → PG (gen X s H (genEnv scope cl C code builtinsNs X.env) fp A) tg g)
    (ht : ∀ (s : Shared) (H : Hp) (C : Addr) (cl : List (Str × Addr)) (code : Value) (fp : List Addr) (A : Around), Room k A → PTs (gen X s H (genEnv scope cl C code builtinsNs X.env) fp A) ifs tt)
    (he : ∀ (s : Shared) (H : Hp) (C : Addr) (cl : List (Str × Addr)) (code : Value) (fp : List Addr) (A : Around), Room k A → PE (gen X s H (genEnv scope cl C code builtinsNs X.env) fp A) elt te)
    (hs : ∀ v, genFold iter X.env v = pure v)
    (hst : starEach [.GeneratorExp elt [⟨tg, iter, ifs, 0⟩] scope gpos] X.env = (false, eval (.GeneratorExp elt [⟨tg, iter, ifs, 0⟩] scope gpos) X.env) :: starEach [] X.env := by rfl) :
    PE X (.Call (.Name "tuple" p) [.GeneratorExp elt [⟨tg, iter, ifs, 0⟩] scope gpos] [] pos) (tTupG P wi g tt te (own.map (·.2))) := by
  refine ⟨fun pins s σ H Q I h => ?_⟩
  have hfree : ∀ y ∈ scope.names, y.2 = .free → ∃ c, X.env.cells.lookup y.1 = some c := fun y hy e => by
    rcases ok.free y hy e with k | k
    · exact I.ok.has _ (.inl k)
    · exact I.ok.has _ (.inr k)
  refine wpAny_Call_Name_kw (ld_blt I hgl hm (by decide +kernel : bootBuiltins "tuple" = some (.type "tuple")) ?_)
  refine PyProof.Rows.callWith_type1 ?_ hst (by rfl)
  rw [hst]
  show wpAny _ _ (spliced ((false, eval (.GeneratorExp elt [⟨tg, iter, ifs, 0⟩] scope gpos) X.env) :: backTo pos (starEach [] X.env))) _ _ s
  refine Calls.spliced_cons ?_
  refine wpAny_GeneratorExp_make S.co (closure_ok hfree) S.nc S.dot ok.kind (by have := hr.dp; omega) ?_ hs
  refine thn (hi.run pins s σ H _ I h) fun xv s1 hx => thn hx fun itv s2 h2 => ?_
  obtain ⟨it, fp, tn, J, H2, e, I2, T, st2, f2, ⟨ps, hP, ht0⟩, q⟩ := h2
  subst e
  refine ⟨I2.nolimit, ?_⟩
  have hPs : s2.heap.get? P = some { cls := .none, data := .fields ps } := I2.hok P _ hP
  have cd : PySem.W.CodeHd s2.heap c P := TB.code.keeps fun b u e => I2.bk b u e
  have fpP : ∀ b ∈ fp, b ≠ P := fun b hb z => by
    have := (f2 b hb).1
    rw [z, hP] at this
    cases this
  have sz : ∀ b ∈ fp, b < s2.heap.objs.size := fun b hb => by
    obtain ⟨o, e, _⟩ := T.obj _ _ st2 b hb
    exact Heap.lt_size e
  have cont : ∀ (code : Value) (h3 : Heap) (tk : Nat) (ps' : Array Value), Heap.ExtBut P s2.heap h3 → s2.heap.objs.size ≤ h3.objs.size → h3.get? P = some { cls := .none, data := .fields ps' } → (∃ more, ps' = ps ++ more) → TriplesOk ps'.toList →
      wpAny (model X.prog X.w) X.A (builtinsFor X.env.globals X.env.builtins) (fun bi s₄ =>
        ∀ h', h'.Ns s₄.heap.objs.size (fun y => if y = ".0" then some (.ref it) else none) → Heap.SameBut s₄.heap.objs.size (s₄.heap.push { cls := .type "frame", data := .dict #[] }) h' →
          wpAny (model X.prog X.w) X.A (spliced (backTo pos (starEach [] X.env))) (fun vs s₁ => wpAny (model X.prog X.w) X.A (call (.type "tuple") (.ref h'.objs.size :: vs)) (EP X pins σ Q) X.xe s₁) X.xe { s₄ with
            gens := s₄.gens.push (.fresh (.compStart (.GeneratorExp elt [⟨tg, iter, ifs, 0⟩] scope gpos) 0 (.ref it) .none (genEnv scope (cloFrom X.env.cells scope.names []) s₄.heap.objs.size code bi X.env))),
            toks := s₄.toks + 1 + 1 + 1,
            heap := h'.push { cls := .type "generator", data := .fields #[.int s₄.gens.size 0, .str "<genexpr>" (s₄.toks + 1), .str (X.env.qual ++ "<genexpr>") (s₄.toks + 1 + 1)] } }) X.xe { s2 with heap := h3, toks := tk } := by
    intro code h3 tk ps' hx hsz hP3 hmore ht3
    obtain ⟨more, rfl⟩ := hmore
    obtain ⟨bm, ob, e1, e2, e3, e4, e5, e6, e7, e8⟩ := TB.bm
    have keep3 : ∀ b u, b ≠ P → s2.heap.get? b = some u → h3.get? b = some u := fun b u hb e => hx b u hb e
    refine wpAny_builtinsFor (m := X.mg) (by rw [I2.ok.glob]; exact (I2.mod.glob.keeps I2.bk).extBut hx TB.gP) e1 e2 (keep3 _ _ e4 (I2.bk _ _ e5)) e6 e7 e8 ?_
    generalize hs4 : ({ s2 with heap := h3, toks := tk } : Shared) = s4
    have h4h : s4.heap = h3 := by rw [← hs4]
    have I4 : Inv X pins σ (upd H2 P (.tbl (ps ++ more))) s4 := by
      rw [← hs4]
      exact inv_tab (more := more) (h' := h3) (g' := s2.gens) (d' := s2.drawn) (t' := tk) I2 hP keep3 hP3 I2.bare
    have hT2 : Tabbed P H2 (upd H2 P (.tbl (ps ++ more))) := ⟨⟨_, upd_same, ht3⟩, fun b hb => upd_ne hb⟩
    have q4 := q _ hT2
    generalize hH4 : upd H2 P (.tbl (ps ++ more)) = H4 at I4 q4
    have f4 : ∀ b ∈ fp, FpOk X pins H4 b ∧ b < s4.heap.objs.size := fun b hb => by
      refine ⟨⟨?_, (f2 b hb).2⟩, by rw [h4h]; exact Nat.lt_of_lt_of_le (sz b hb) hsz⟩
      rw [← hH4, upd_ne (fpP b hb)]
      exact (f2 b hb).1
    have st4 : tn 0 s4.heap := T.keep _ _ _ st2 fun b hb o e => by rw [h4h]; exact keep3 b o (fpP b hb) e
    intro h' hn' hs'
    have hsz' : h'.objs.size = s4.heap.objs.size + 1 := by rw [hs'.1, Heap.size_push]
    have keep' : ∀ b o, s4.heap.get? b = some o → h'.get? b = some o := fun b o e => hs'.extBut b o (Nat.ne_of_lt (Heap.lt_size e)) (Heap.get?_push_of_some _ e)
    generalize hoa : ({ cls := .type "generator", data := .fields #[.int s4.gens.size 0, .str "<genexpr>" (s4.toks + 1), .str (X.env.qual ++ "<genexpr>") (s4.toks + 1 + 1)] } : Obj) = oa
    generalize hcenv : genEnv scope (cloFrom X.env.cells scope.names []) s4.heap.objs.size code builtinsNs X.env = cenv
    generalize hs5 : ({ s4 with gens := s4.gens.push (.fresh (.compStart (.GeneratorExp elt [⟨tg, iter, ifs, 0⟩] scope gpos) 0 (.ref it) .none cenv)), toks := s4.toks + 1 + 1 + 1, heap := h'.push oa } : Shared) = s5
    have h5h : s5.heap = h'.push oa := by rw [← hs5]
    have kp5 : ∀ b o, s4.heap.get? b = some o → s5.heap.get? b = some o := fun b o e => by rw [h5h]; exact Heap.get?_push_of_some _ (keep' b o e)
    have ha5 : s5.heap.get? h'.objs.size = some oa := by rw [h5h]; exact Heap.get?_push_size _ (by rw [← hoa]; rfl)
    have g5 : s5.gens[s4.gens.size]? = some (.fresh (.compStart (.GeneratorExp elt [⟨tg, iter, ifs, 0⟩] scope gpos) 0 (.ref it) .none cenv)) := by rw [← hs5]; exact Array.getElem?_push_size ..
    have b5 : AllBare s5.gens := by rw [← hs5]; exact I4.bare.push rfl
    have isg : ∀ h : Heap, h.get? h'.objs.size = some oa → h.IsGen h'.objs.size s4.gens.size := fun h e => by
      rw [← hoa] at e
      exact ⟨_, _, _, e, rfl, rfl, rfl⟩
    refine Calls.spliced_nil ?_
    have back : ∀ s1 s' σ2 H', Inv (gen X s4 H4 cenv fp (X.A.in1.in1.in1.in1.deeper cenv)) [(h'.objs.size, oa)] σ2 H' s1 → Woken s1 s' → Inv X pins σ H' s' := fun s1 s' σ2 H' I1 wk =>
      inv_woken (I4.call' (ch := fp) I1.os I1.base I1.hok I1.bare fun b hb => ⟨(f4 b hb).1.2.2.2.1, (f4 b hb).1.2.1, (f4 b hb).1.2.2.2.2.1, (f4 b hb).1.2.2.2.2.2⟩) wk
    have frm : (X.A.in1.in1.in1.in1.deeper cenv).frames = some (cenv :: X.stack) := Around.frames_deeper I4.ok.frames
    have hrA : Room k (X.A.in1.in1.in1.in1.deeper cenv) := ((((((hr.mono (by omega : k + 5 ≤ k + 6)).in1).in1).in1).in1).deeper cenv)
    have I5 : Inv (gen X s4 H4 cenv fp (X.A.in1.in1.in1.in1.deeper cenv)) [] (wipe σ (own.map (·.2))) H4 (s5.setGen s4.gens.size .running) :=
      gen_start (s5 := s5.setGen s4.gens.size .running) I4 ok hN S.nc f4 hcenv.symm frm hrA.hd (by rw [← hs5]; rfl) (allBare_setGen b5 rfl) kp5 (show Heap.Ns s5.heap s4.heap.objs.size _ by rw [h5h]; exact hn'.push _)
    have I6 : Inv (gen X s4 H4 cenv fp (X.A.in1.in1.in1.in1.deeper cenv)) [(h'.objs.size, oa)] (wipe σ (own.map (·.2))) H4 (s5.setGen s4.gens.size .running) := I5.pins_of fun p hp => by
      have ep : p = (h'.objs.size, oa) := List.mem_singleton.mp hp
      subst ep
      have hge : s4.heap.objs.size ≤ h'.objs.size := by omega
      refine ⟨ha5, I4.hok.fresh hge, ?_, fun z => ?_, fun v z => ?_⟩
      · show h'.objs.size ≠ cenv.locals
        rw [← hcenv]
        show h'.objs.size ≠ s4.heap.objs.size
        omega
      · rcases List.mem_cons.mp (I4.stkSub _ z) with z | z
        · have hlt : h'.objs.size < s4.heap.objs.size := by
            rw [show h'.objs.size = X.env.locals from z]
            exact I4.lt
          exact absurd (Nat.lt_of_lt_of_le hlt hge) (Nat.lt_irrefl _)
        · exact I4.nofs hge z
      · rw [← hoa] at z
        cases z
    have hDn : H4 s5.heap.objs.size = none := I4.hok.fresh (by rw [h5h, Heap.size_push]; omega)
    obtain ⟨W, ⟨m0, w0⟩, turn⟩ := q4 s5.heap.objs.size hDn
    have hnf : ∀ b ∈ fp, upd H4 s5.heap.objs.size (.lst []) b = none := fun b hb => by
      have h2 : s4.heap.objs.size ≤ s5.heap.objs.size := by rw [h5h, Heap.size_push]; omega
      rw [upd_ne (Nat.ne_of_lt (Nat.lt_of_lt_of_le (f4 b hb).2 h2))]
      exact (f4 b hb).1.1
    refine callType_codes (Q₁ := fun obj s₁ => s₁.TypeIs obj "tuple" ∧ EP X pins σ Q obj s₁) F.called_tuple (F.typeCall_tuple_1 _) F.entry_object_init (code_tuple_newX (isg _ ha5).typeIs
      (collect_genX (G := gen X s4 H4 cenv fp (X.A.in1.in1.in1.in1.deeper cenv)) (p0 := [(h'.objs.size, oa)]) (A := X.A.in1.in1) (Qe := fun H => ∃ xs, H s5.heap.objs.size = some (.lst xs) ∧ ∀ p, H p = none → Q (.ref p) (upd H p (.tup xs))) hr.hd (by have := hr.dp; show X.A.depth < _; omega) (List.mem_singleton.mpr rfl) isg ha5 (I4.nolimit.keeps kp5) (fun h7 c7 kp7 hS7 => ?_) (fun s1 s' σ2 H' I1 hq wk => ?_))) fun obj s₁ h₁ => ?_
    · have I7 : Inv (gen X s4 H4 cenv fp (X.A.in1.in1.in1.in1.deeper cenv)) [(h'.objs.size, oa)] (wipe σ (own.map (·.2))) (upd H4 s5.heap.objs.size (.lst [])) (({ s5 with heap := h7 } : Shared).setGen s4.gens.size .running) :=
        I6.laid (h' := h7) (t' := s5.toks) (a := s5.heap.objs.size) (o := .lst []) (fun b u e => kp7 b u e) (Nat.le_refl _) ⟨Nat.zero_le _, [], c7, .nil, hS7⟩
      refine ⟨_, m0 + 1, g5, rfl, ?_⟩
      exact seg_tupStart (iter := iter) (scope := scope) (pos := gpos) (A := X.A.in1.in1.in1.in1) (p0 := [(h'.objs.size, oa)]) hc (by rw [← hcenv]; exact S.co) T (fun p hp z => by
          rw [List.mem_singleton.mp hp] at z
          have := (f4 _ z).2
          have hge : s4.heap.objs.size ≤ h'.objs.size := by omega
          exact absurd (Nat.lt_of_lt_of_le this hge) (Nat.lt_irrefl _))
        (by rw [← hcenv]; exact hg s4 H4 _ _ code fp _ (by rw [hcenv]; exact hrA)) (by rw [← hcenv]; exact ht s4 H4 _ _ code fp _ (by rw [hcenv]; exact hrA)) (by rw [← hcenv]; exact he s4 H4 _ _ code fp _ (by rw [hcenv]; exact hrA))
        turn m0 (m0 + 1) _ _ _ (by omega) I7 (T.keep _ _ _ st4 fun b _ o e => kp7 b o (kp5 b o e)) hnf w0
    · obtain ⟨xs, hx, hq⟩ := hq
      obtain ⟨its, nn, r, ho, hz⟩ := I1.lst hx
      have hlen := r.length
      refine ⟨its, nn, wk.2.2 _ _ ho, by omega, ⟨_, Heap.get?_push_size _ rfl, rfl⟩, ?_⟩
      have Ib := back s1 s' σ2 H' I1 wk
      exact ⟨.ref s'.heap.objs.size, upd H' s'.heap.objs.size (.tup xs), Ib.laid (h' := s'.heap.push { cls := .type "tuple", data := .seq its.toArray }) (t' := s'.toks) (fun b o e => Heap.get?_push_of_some _ e) (Nat.le_refl _) (show ObjOk X.prog X.w _ _ _ (.tup xs) from ⟨hz, its, r, IsTup.new _ _⟩), rfl, hq _ (Ib.hok.fresh (Nat.le_refl _))⟩
    · exact ⟨h₁.1, F.args_object_init_2 obj _, object_init_meets F.called_tuple.init.lookup F.called_tuple.made (by decide) X.prog X.w X.A.in1 _ s₁ ⟨h₁.1, rfl, h₁.2⟩⟩
  cases hf : codeAmong gpos ps.toList with
  | none =>
    refine wpAny_genexprCodeX hcode (cd.code hPs ht0) (cd.tab hPs) hf fun c' h' tk hx hge hlt hco' _ htab' _ => ?_
    obtain ⟨o1, vs, f1, tf, fl, tg', inF, tx, tt', op, _, _, _, _, _, _, _, _, _, htr, _⟩ := hco'
    exact cont _ h' tk _ hx (Nat.le_trans hge (Nat.le_of_lt hlt)) htab'.2 ⟨_, rfl⟩ htr
  | some cv =>
    refine wpAny_genexprCode_hit hcode (cd.code hPs ht0) hf ?_
    exact cont cv s2.heap s2.toks ps (Heap.ExtBut.refl _ _) (Nat.le_refl _) hPs ⟨#[], by simp⟩ ht0
end
end Zk
set_option Elab.async false
set_option linter.all false
set_option maxRecDepth 100000
set_option maxHeartbeats 2000000
/-! Rows of parts; what a def with a table keeps. -/
namespace Zk
open PySem PySem.Spec PyProof.Rows L2 GxR RZ
/-! ### all kept, but the table at Pt has grown -/
structure Kt (Pt : Addr) (H H' : Hp) : Prop where
  keep : ∀ b o, b ≠ Pt → H b = some o → H' b = some o
  tab : TabG H' Pt
theorem Kt.kp {Pt : Addr} {H H' : Hp} (k : Kt Pt H H') (h : TabG H Pt) : Kp H H' := fun b o n e => by
  obtain ⟨ps, hp, _⟩ := h
  exact k.keep b o (ne_of e hp (n ps)) e
theorem Kt.tg {Pt P' : Addr} {H H' : Hp} (k : Kt Pt H H') (h : TabG H P') : TabG H' P' := by
  by_cases z : P' = Pt
  · rw [z]; exact k.tab
  · obtain ⟨ps, hp, t⟩ := h
    exact ⟨ps, k.keep _ _ z hp, t⟩
theorem Kt.of_same {Pt : Addr} {H H' : Hp} (e : Same H H') (h : TabG H Pt) : Kt Pt H H' := ⟨fun b o _ q => e b o q, tg_same h e⟩
theorem Kt.of_tab {Pt : Addr} {H H' : Hp} (e : Tabbed Pt H H') : Kt Pt H H' := ⟨fun b o n q => by rw [e.2 b n]; exact q, e.1⟩
theorem Kt.trans {Pt : Addr} {H H1 H2 : Hp} (a : Kt Pt H H1) (b : Kt Pt H1 H2) : Kt Pt H H2 := ⟨fun c o n q => b.keep c o n (a.keep c o n q), b.tab⟩
/-- all kept, but the table at Pt and the list at D -/
structure Kd (Pt D : Addr) (H H' : Hp) : Prop where
  keep : ∀ b o, b ≠ Pt → b ≠ D → H b = some o → H' b = some o
  tab : TabG H' Pt
theorem Kd.start {Pt D : Addr} {H H2 : Hp} {o : HO} (T : Tabbed Pt H H2) (n : H2 D = none) : Kd Pt D H (upd H2 D o) := by
  have nD : Pt ≠ D := fun z => by
    obtain ⟨ps, hp, _⟩ := T.1
    rw [z, n] at hp
    cases hp
  refine ⟨fun b u h1 h2 e => ?_, ?_⟩
  · rw [upd_ne h2, T.2 b h1]; exact e
  · obtain ⟨ps, hp, t⟩ := T.1
    exact ⟨ps, by rw [upd_ne nD]; exact hp, t⟩
theorem Kd.same {Pt D : Addr} {H H1 H2 : Hp} (k : Kd Pt D H H1) (e : Same H1 H2) : Kd Pt D H H2 := ⟨fun b o h1 h2 q => e _ _ (k.keep b o h1 h2 q), tg_same k.tab e⟩
theorem Kd.upd {Pt D : Addr} {H H1 : Hp} {xs : List V} {o : HO} (k : Kd Pt D H H1) (hD : H1 D = some (.lst xs)) : Kd Pt D H (upd H1 D o) := by
  obtain ⟨ps, hp, t⟩ := k.tab
  have n : Pt ≠ D := ne_of hp hD (fun z => by cases z)
  exact ⟨fun b u h1 h2 q => by rw [upd_ne h2]; exact k.keep b u h1 h2 q, ps, by rw [upd_ne n]; exact hp, t⟩
theorem Kd.kt {Pt D : Addr} {H H1 : Hp} (k : Kd Pt D H H1) (n : H D = none) : Kt Pt H H1 := ⟨fun b o h1 q => k.keep b o h1 (ne_of_none q n) q, k.tab⟩
theorem Kd.get {Pt D : Addr} {H H1 : Hp} {b : Addr} {o : HO} (k : Kd Pt D H H1) (n : H D = none) (h : TabG H Pt) (e : H b = some o) (no : ∀ ps, o ≠ .tbl ps) : H1 b = some o := by
  obtain ⟨ps, hp, _⟩ := h
  exact k.keep b o (ne_of e hp (no ps)) (ne_of_none e n) e
theorem same_upd {H : Hp} {p : Addr} {o : HO} (n : H p = none) : Same H (upd H p o) := fun b u e => by rw [upd_ne (ne_of_none e n)]; exact e
/-! ### the loop of tuple(..) -/
theorem tup_steps {J : It} {g : TG} {tt : TT} {te : TE} {vs : List Nat} {σw : L2.St} {D : Addr} {H0 : Hp} {Qe : Hp → Prop} (n : Nat) (Pv : Nat → Hp → Prop) (h0 : Pv 0 H0) (hgo : ∀ i H, i < n → Pv i H → J.go i H) (hstop : ∀ H, Pv n H → J.stop n H)
    (hs : ∀ i H x H', i < n → Pv i H → J.yld i H x H' → g x σw H' fun σ2 H2 => wipe σ2 vs = σw ∧ tt σ2 H2 fun b H3 => if b = true then te σ2 H3 fun y H4 => ∃ xs, H4 D = some (.lst xs) ∧ xs.length < sizeLine ∧ Pv (i + 1) (upd H4 D (.lst (xs ++ [y]))) else Pv (i + 1) H3)
    (hd : ∀ H, Pv n H → Qe H) : ∃ W : Nat → Nat → Hp → Prop, (∃ m, W 0 m H0) ∧ TupTurns J g tt te vs σw D W Qe := by
  refine ⟨fun i m H => m = n - i ∧ i ≤ n ∧ Pv i H, ⟨n, rfl, Nat.zero_le _, h0⟩, ?_⟩
  rintro i m H ⟨rfl, hi, p⟩
  by_cases h : i < n
  · exact .inr ⟨hgo i H h p, Pv (i + 1), fun H' p' => ⟨n - (i + 1), by omega, rfl, h, p'⟩, fun x H' hy => hs i H x H' h p hy⟩
  · have e : i = n := by omega
    subst e
    exact .inl ⟨hstop H p, hd H p⟩
theorem tup_zip {K : PySem.W.Frag} {a b : Addr} {xs ys : List V} {g : TG} {tt : TT} {te : TE} {vs : List Nat} {σw : L2.St} {D : Addr} {H0 : Hp} {Qe : Hp → Prop} (hl : xs.length = ys.length) (Pv : Nat → Hp → Prop) (h0 : Pv 0 H0) (hq : ∀ i H, Pv i H → SqT K H a xs ∧ SqT K H b ys)
    (hs : ∀ (i : Nat) (x y : V) (T : Addr) (H : Hp), xs[i]? = some x → ys[i]? = some y → Pv i H → H T = none → g (.ref T) σw (upd H T (.tup [x, y])) fun σ2 H2 => wipe σ2 vs = σw ∧ tt σ2 H2 fun b H3 => if b = true then te σ2 H3 fun y H4 => ∃ xs, H4 D = some (.lst xs) ∧ xs.length < sizeLine ∧ Pv (i + 1) (upd H4 D (.lst (xs ++ [y]))) else Pv (i + 1) H3)
    (hd : ∀ H, Pv xs.length H → Qe H) : ∃ W : Nat → Nat → Hp → Prop, (∃ m, W 0 m H0) ∧ TupTurns (ItzT K a b) g tt te vs σw D W Qe := by
  refine tup_steps xs.length Pv h0 (fun i H hi p => ?_) (fun H p => ?_) (fun i H v H' hi p hy => ?_) hd
  · obtain ⟨qx, qy⟩ := hq i H p
    exact ⟨xs, ys, xs[i], ys[i], qx, qy, List.getElem?_eq_getElem hi, List.getElem?_eq_getElem (by omega)⟩
  · obtain ⟨qx, qy⟩ := hq _ H p
    exact ⟨xs, ys, qx, qy, .inl (Nat.le_refl _)⟩
  · obtain ⟨qx, qy⟩ := hq i H p
    obtain ⟨T, x', y', rfl, hT, rfl, f1, f2⟩ := hy
    exact hs i x' y' T H (f1 xs qx) (f2 ys qy) p hT
theorem tup_tup {K : PySem.W.Frag} {a : Addr} {xs : List V} {g : TG} {tt : TT} {te : TE} {vs : List Nat} {σw : L2.St} {D : Addr} {H0 : Hp} {Qe : Hp → Prop} (Pv : Nat → Hp → Prop) (h0 : Pv 0 H0) (hq : ∀ i H, Pv i H → SqT K H a xs)
    (hs : ∀ (i : Nat) (x : V) (H : Hp), xs[i]? = some x → Pv i H → g x σw H fun σ2 H2 => wipe σ2 vs = σw ∧ tt σ2 H2 fun b H3 => if b = true then te σ2 H3 fun y H4 => ∃ xs, H4 D = some (.lst xs) ∧ xs.length < sizeLine ∧ Pv (i + 1) (upd H4 D (.lst (xs ++ [y]))) else Pv (i + 1) H3)
    (hd : ∀ H, Pv xs.length H → Qe H) : ∃ W : Nat → Nat → Hp → Prop, (∃ m, W 0 m H0) ∧ TupTurns (Itt K a) g tt te vs σw D W Qe := by
  refine tup_steps xs.length Pv h0 (fun i H hi p => ⟨xs, xs[i], hq i H p, List.getElem?_eq_getElem hi⟩) (fun H p => ⟨xs, hq _ H p, Nat.le_refl _⟩) (fun i H v H' hi p hy => ?_) hd
  obtain ⟨rfl, f1⟩ := hy
  exact hs i v _ (f1 xs (hq i _ p)) p
theorem z_tupG {P : Addr} {wi : TI} {g : TG} {tt : TT} {te : TE} {vs : List Nat} {σ : L2.St} {H : Hp} {Q : VK} (q : wi σ H fun J H1 => TabG H1 P ∧ ∀ H2, Tabbed P H1 H2 → ∀ D, H2 D = none →
  ∃ W : Nat → Nat → Hp → Prop, (∃ m, W 0 m (upd H2 D (.lst []))) ∧ TupTurns J g tt te vs (wipe σ vs) D W (fun H => ∃ xs, H D = some (.lst xs) ∧ ∀ p, H p = none → Q (.ref p) (upd H p (.tup xs)))) : tTupG P wi g tt te vs σ H Q := q
theorem z_zipA {K : PySem.W.Frag} {ta : TA} {σ : L2.St} {H : Hp} {R : It → Hp → Prop} (q : ta σ H fun vs H1 => ∃ a b xs ys, vs = [.ref a, .ref b] ∧ ((SqL K H1 a xs ∧ SqL K H1 b ys ∧ R (Itz K a b) H1) ∨ (SqT K H1 a xs ∧ SqT K H1 b ys ∧ R (ItzT K a b) H1))) : iZipA K ta σ H R := q
theorem op_repTE {X : Cx} (K : PySem.W.Frag) (e : X.K = K := by rfl) : OpR X (binaryOp .Mult) (rRepT K) := by rw [← e]; exact op_repT
theorem pi_zipE {X : Cx} (K : PySem.W.Frag) {e e2 : Expr} {ta : TA} {p pos tpos : Pos} {elts : List Expr} {kk : Nat} (hg : Gl X "zip") (hm : X.mg "zip" = none) (ha : PA X [e, e2] ta) (ek : X.K = K := by rfl)
    (hs : starEach [e, e2] X.env = (false, eval e X.env) :: starEach [e2] X.env := by rfl) (hpl : (backTo pos (starEach [e2] X.env)).any (·.1) = false := by rfl) :
    PI X (.Tuple elts kk tpos) (.Call (.Name "zip" p) [e, e2] [] pos) (iZipA K ta) := by rw [← ek]; exact pi_zipA hg hm ha hs hpl
theorem z_repT1 {K : PySem.W.Frag} {H : Hp} {Q : VK} {l : Addr} {v : V} {k : Int} (h : H l = some (.tup [v])) (h2 : 2 ≤ k) (h3 : k ≤ 1000) (q : ∀ p H', H p = none → Same H H' → H' p = some (.tup (List.replicate k.toNat v)) → Q (.ref p) H') : rRepT K (.ref l) (.int k) H Q :=
  ⟨l, k, [v], rfl, rfl, SqT.of h, by simp, h2, h3, by simp, fun p hp => q p _ hp (same_upd hp) (by rw [upd_same, List.flatten_replicate_singleton])⟩
/-! ### rows -/
abbrev Pt : Type := Int × Nat
def PtV (H : Hp) (v : V) (d : Pt) : Prop := ∃ q, v = .ref q ∧ H q = some (.tup [.int d.1, .int (d.2 : Int)])
theorem PtV.kp {H H' : Hp} {v : V} {d : Pt} (h : PtV H v d) (k : Kp H H') : PtV H' v d := by
  obtain ⟨q, rfl, h⟩ := h
  exact ⟨q, rfl, k.tup h⟩
def PtsAll (H : Hp) : List V → List Pt → Prop
  | [], [] => True
  | v :: vs, d :: ds => PtV H v d ∧ PtsAll H vs ds
  | _, _ => False
theorem PtsAll.len {H : Hp} : ∀ {vs : List V} {ds : List Pt}, PtsAll H vs ds → vs.length = ds.length
  | [], [], _ => rfl
  | _ :: _, _ :: _, h => by simp only [List.length_cons]; rw [PtsAll.len h.2]
  | [], _ :: _, h => h.elim
  | _ :: _, [], h => h.elim
theorem PtsAll.get {H : Hp} : ∀ {vs : List V} {ds : List Pt} {i : Nat} {v : V}, PtsAll H vs ds → vs[i]? = some v → ∃ d, ds[i]? = some d ∧ PtV H v d
  | [], [], _, _, _, e => by simp at e
  | w :: vs, d :: ds, 0, v, h, e => by
    have e2 : w = v := by simpa using e
    exact ⟨d, rfl, e2 ▸ h.1⟩
  | _ :: vs, _ :: ds, i + 1, v, h, e => PtsAll.get (i := i) h.2 (by simpa using e)
  | [], _ :: _, _, _, h, _ => h.elim
  | _ :: _, [], _, _, h, _ => h.elim
theorem PtsAll.kp {H H' : Hp} (k : Kp H H') : ∀ {vs : List V} {ds : List Pt}, PtsAll H vs ds → PtsAll H' vs ds
  | [], [], _ => trivial
  | _ :: _, _ :: _, h => ⟨h.1.kp k, PtsAll.kp k h.2⟩
  | [], _ :: _, h => h.elim
  | _ :: _, [], h => h.elim
theorem PtsAll.snoc {H : Hp} {v : V} {d : Pt} (hv : PtV H v d) : ∀ {vs : List V} {ds : List Pt}, PtsAll H vs ds → PtsAll H (vs ++ [v]) (ds ++ [d])
  | [], [], _ => ⟨hv, trivial⟩
  | _ :: _, _ :: _, h => ⟨h.1, PtsAll.snoc hv h.2⟩
  | [], _ :: _, h => h.elim
  | _ :: _, [], h => h.elim
theorem PtsAll.rep {H : Hp} {v : V} {d : Pt} (hv : PtV H v d) : ∀ n, PtsAll H (List.replicate n v) (List.replicate n d)
  | 0 => trivial
  | n + 1 => ⟨hv, PtsAll.rep hv n⟩
/-- a list written: what are tuples stays -/
theorem PtsAll.updL {H : Hp} {D : Addr} {xs : List V} {o : HO} (hD : H D = some (.lst xs)) : ∀ {vs : List V} {ds : List Pt}, PtsAll H vs ds → PtsAll (upd H D o) vs ds
  | [], [], _ => trivial
  | _ :: _, _ :: _, h => by
    obtain ⟨⟨q, rfl, hq⟩, h2⟩ := h
    exact ⟨⟨q, rfl, by rw [upd_ne (ne_of hq hD (fun z => by cases z))]; exact hq⟩, PtsAll.updL hD h2⟩
  | [], _ :: _, h => h.elim
  | _ :: _, [], h => h.elim
theorem PtsAll.app {H : Hp} : ∀ {vs ws : List V} {ds es : List Pt}, PtsAll H vs ds → PtsAll H ws es → PtsAll H (vs ++ ws) (ds ++ es)
  | [], _, [], _, _, h => h
  | _ :: _, _, _ :: _, _, h, h2 => ⟨h.1, PtsAll.app h.2 h2⟩
  | [], _, _ :: _, _, h, _ => h.elim
  | _ :: _, _, [], _, h, _ => h.elim
def RowA (H : Hp) (p : Addr) (ds : List Pt) : Prop := ∃ vs, H p = some (.tup vs) ∧ PtsAll H vs ds
theorem RowA.kp {H H' : Hp} {p : Addr} {ds : List Pt} (h : RowA H p ds) (k : Kp H H') : RowA H' p ds := by
  obtain ⟨vs, h1, h2⟩ := h
  exact ⟨vs, k.tup h1, h2.kp k⟩
def Bd (m : Nat) (ds : List Pt) : Prop := ∀ d ∈ ds, d.1.natAbs < 2 ^ m ∧ d.2 ≤ m
def plusF (x y : Pt) : Pt := partF (x.2 + y.2) (x.1 * 2 ^ y.2 + y.1 * 2 ^ x.2)
def lessF (x y : Pt) : Pt := partF (x.2 + y.2) (x.1 * 2 ^ y.2 - y.1 * 2 ^ x.2)
theorem PtsAll.mono {H H' : Hp} (k : ∀ q xs, H q = some (.tup xs) → H' q = some (.tup xs)) : ∀ {vs : List V} {ds : List Pt}, PtsAll H vs ds → PtsAll H' vs ds
  | [], [], _ => trivial
  | _ :: _, _ :: _, h => by
    obtain ⟨⟨q, rfl, hq⟩, h2⟩ := h
    exact ⟨⟨q, rfl, k _ _ hq⟩, PtsAll.mono k h2⟩
  | [], _ :: _, h => h.elim
  | _ :: _, [], h => h.elim
theorem RowA.mono {H H' : Hp} {p : Addr} {ds : List Pt} (k : ∀ q xs, H q = some (.tup xs) → H' q = some (.tup xs)) (h : RowA H p ds) : RowA H' p ds := by
  obtain ⟨vs, h1, h2⟩ := h
  exact ⟨vs, k _ _ h1, h2.mono k⟩
/-- a law's way: all kept but the source at s and the tables of Ps -/
structure Ls (s : Addr) (Ps : List Addr) (H H' : Hp) : Prop where
  keep : ∀ b o, b ≠ s → (∀ ps, o ≠ .tbl ps) → H b = some o → H' b = some o
  src0 : Src H s
  src : Src H' s
  tt : ∀ p ∈ Ps, TabG H' p
theorem Ls.refl {s : Addr} {Ps : List Addr} {H : Hp} (h : Src H s) (t : ∀ p ∈ Ps, TabG H p) : Ls s Ps H H := ⟨fun _ _ _ _ e => e, h, h, t⟩
theorem Ls.trans {s : Addr} {Ps : List Addr} {H H1 H2 : Hp} (a : Ls s Ps H H1) (b : Ls s Ps H1 H2) : Ls s Ps H H2 := ⟨fun c o n1 n2 e => b.keep c o n1 n2 (a.keep c o n1 n2 e), a.src0, b.src, b.tt⟩
theorem Ls.same {s : Addr} {Ps : List Addr} {H H1 H2 : Hp} (l : Ls s Ps H H1) (e : Same H1 H2) : Ls s Ps H H2 := ⟨fun b o n1 n2 q => e _ _ (l.keep b o n1 n2 q), l.src0, l.src.same e, fun p hp => tg_same (l.tt p hp) e⟩
theorem Ls.dr {s : Addr} {Ps : List Addr} {H H1 H2 : Hp} (l : Ls s Ps H H1) (d : Dr s H1 H2) : Ls s Ps H H2 := ⟨fun b o n1 n2 q => d.keep _ _ n1 (l.keep b o n1 n2 q), l.src0, d.src, fun p hp => tg_dr (l.tt p hp) d⟩
theorem Ls.kt {s P : Addr} {Ps : List Addr} {H H1 H2 : Hp} (l : Ls s Ps H H1) (k : Kt P H1 H2) (hP : P ∈ Ps) : Ls s Ps H H2 :=
  ⟨fun b o n1 n2 q => k.kp (l.tt P hP) b o n2 (l.keep b o n1 n2 q), l.src0, l.src.kp (k.kp (l.tt P hP)), fun p hp => k.tg (l.tt p hp)⟩
theorem Ls.tup {s q : Addr} {Ps : List Addr} {H H1 : Hp} {xs : List V} (l : Ls s Ps H H1) (h : H q = some (.tup xs)) : H1 q = some (.tup xs) := by
  obtain ⟨a, b, c, hs⟩ := l.src0
  exact l.keep _ _ (ne_of h hs (fun z => by cases z)) (fun _ z => by cases z) h
theorem Ls.row {s q : Addr} {Ps : List Addr} {H H1 : Hp} {ds : List Pt} (l : Ls s Ps H H1) (h : RowA H q ds) : RowA H1 q ds := h.mono fun _ _ e => l.tup e
theorem Ls.lst {s q : Addr} {Ps : List Addr} {H H1 : Hp} {xs : List V} (l : Ls s Ps H H1) (n : q ≠ s) (h : H q = some (.lst xs)) : H1 q = some (.lst xs) := l.keep _ _ n (fun _ z => by cases z) h
theorem plus_zero : ∀ (ds : List Pt) (n : Nat), ds.length = n → (∀ d ∈ ds, d.2 = 0) → List.zipWith plusF ds (List.replicate n ((0, 0) : Pt)) = ds
  | [], n, h, _ => by simp
  | (x, e) :: ds, n, h, h0 => by
    obtain ⟨n, rfl⟩ : ∃ k, n = k + 1 := ⟨n - 1, by simp at h; omega⟩
    have e0 : e = 0 := h0 (x, e) (by simp)
    subst e0
    rw [List.replicate_succ, List.zipWith_cons_cons, plus_zero ds n (by simpa using h) fun d hd => h0 d (by simp [hd])]
    have : plusF (x, 0) (0, 0) = (x, 0) := by
      show partF (0 + 0) (x * 2 ^ 0 + 0 * 2 ^ 0) = (x, 0)
      rw [Int.pow_zero, Int.mul_one, Int.zero_mul, Int.add_zero]
      rfl
    rw [this]
theorem less_self : ∀ ds : List Pt, List.zipWith lessF ds ds = List.replicate ds.length ((0, 0) : Pt)
  | [] => rfl
  | (x, e) :: ds => by
    rw [List.zipWith_cons_cons, less_self ds, List.length_cons, List.replicate_succ]
    have : lessF (x, e) (x, e) = (0, 0) := by
      show partF (e + e) (x * 2 ^ e - x * 2 ^ e) = (0, 0)
      rw [Int.sub_self]
      exact partF_zero _
    rw [this]
def ptD (d : Pt) : PyData := .tuple [.int d.1, .int (d.2 : Int)]
def rowD (ds : List Pt) : PyData := .tuple (ds.map ptD)
theorem dp_pts {K : PySem.W.Frag} {H : Hp} : ∀ {vs : List V} {ds : List Pt}, PtsAll H vs ds → DpAll K H vs (ds.map ptD)
  | [], [], _ => .nil
  | _ :: _, _ :: _, h => by
    obtain ⟨⟨q, rfl, hq⟩, h2⟩ := h
    exact .cons (.tup (SqT.of hq) (.cons (.int _) (.cons (.int _) .nil))) (dp_pts h2)
  | [], _ :: _, h => h.elim
  | _ :: _, [], h => h.elim
theorem dp_row {K : PySem.W.Frag} {H : Hp} {p : Addr} {ds : List Pt} (h : RowA H p ds) : Dp K H (.ref p) (rowD ds) := by
  obtain ⟨vs, h1, h2⟩ := h
  exact .tup (SqT.of h1) (dp_pts h2)
theorem lay_pts : ∀ ds : List Pt, PyData.canLayAll0 (ds.map ptD) = true ∧ PyData.depthAll (ds.map ptD) ≤ 1
  | [] => ⟨rfl, Nat.zero_le _⟩
  | d :: ds => by
    obtain ⟨h1, h2⟩ := lay_pts ds
    refine ⟨?_, ?_⟩
    · show (PyData.canLay0 (ptD d) && PyData.canLayAll0 (ds.map ptD)) = true
      rw [h1]
      rfl
    · show max (PyData.depth (ptD d)) (PyData.depthAll (ds.map ptD)) ≤ 1
      have : PyData.depth (ptD d) = 1 := rfl
      omega
theorem sh_row (ds : List Pt) : SeqAt.shaped (rowD ds) = true := by
  obtain ⟨h1, h2⟩ := lay_pts ds
  unfold SeqAt.shaped
  have e1 : PyData.canLay0 (rowD ds) = true := h1
  have e2 : PyData.depth (rowD ds) = PyData.depthAll (ds.map ptD) + 1 := rfl
  rw [e1, e2, decide_eq_true (by omega)]
  rfl
theorem eqv_row (ds : List Pt) : PyData.eqv (rowD ds) (rowD ds) = true := SeqAt.eqv_refl _ (lay_pts ds).1
theorem z_neRow {K : PySem.W.Frag} {H : Hp} {Q : VK} {p q : Addr} {ds es : List Pt} (h1 : RowA H p ds) (h2 : RowA H q es) (e : ds = es) (k : Q (.bl false) H) : rNeD K (.ref p) (.ref q) H Q := by
  subst e
  exact z_neD (dp_row h1) (dp_row h2) (sh_row _) (sh_row _) (eqv_row _) k
theorem z_eqRow {K : PySem.W.Frag} {H : Hp} {Q : VK} {p q : Addr} {ds es : List Pt} (h1 : RowA H p ds) (h2 : RowA H q es) (e : ds = es) (k : Q (.bl true) H) : rEqD K (.ref p) (.ref q) H Q := by
  subst e
  exact z_eqD (dp_row h1) (dp_row h2) (sh_row _) (sh_row _) (eqv_row _) k
end Zk
set_option Elab.async false
set_option linter.all false
set_option maxRecDepth 100000
set_option maxHeartbeats 2000000
/-! Names, what is told of a thing by its kind, texts of one letter repeated, tuples of texts of the module. -/
namespace Zk
open PySem PySem.Spec PyProof.Rows L2 GxR
/-! ### a letter so many times -/
theorem rep_arr (c : Nat) : ∀ (m : Nat) (acc : Array Nat), (List.replicate m #[c]).foldl (· ++ ·) acc = acc ++ Array.replicate m c
  | 0, acc => by simp
  | m + 1, acc => by
    rw [List.replicate_succ, List.foldl_cons, rep_arr c m, Array.append_assoc]
    congr 1
    apply Array.ext'
    simp [List.replicate_succ]
def rRepS : R2 := fun x y H Q => ∃ (c : Nat) (k : Int), x = .str ⟨#[c]⟩ ∧ y = .int k ∧ 1 ≤ k ∧ k ≤ 1000 ∧ Q (.str ⟨Array.replicate k.toNat c⟩) H
theorem op_repS {X : Cx} : OpR X (binaryOp .Mult) rRepS := by
  intro pins s σ H x y v u Q I rx ry h
  obtain ⟨c, k, rfl, rfl, h1, h2, q⟩ := h
  obtain ⟨t, rfl⟩ := rx
  obtain ⟨t', rfl⟩ := ry
  have hl : (⟨#[c]⟩ : Str).length = 1 := rfl
  refine P.mul_str (by rw [decide_eq_false (by omega), decide_eq_false (by omega)]; rfl) (fun _ _ => ?_) (fun _ _ => ?_) ?_
  · rw [hl]
    have : (1 : Int) ≤ (2 ^ 63 - 1) / k := by
      rw [Int.le_ediv_iff_mul_le (by omega)]
      omega
    omega
  · rw [hl, Nat.one_mul]
    unfold Builtin.Str.tooLong
    exact decide_eq_false (by rw [sizeLine_eq]; omega)
  · rw [if_neg (by omega)]
    by_cases e : k = 1
    · subst e
      rw [if_pos (by rfl)]
      exact ⟨.str ⟨#[c]⟩, H, I, ⟨t, rfl⟩, q⟩
    · rw [if_neg (by
        rw [hl]
        simp [e])]
      have e2 : (⟨(List.replicate k.toNat (⟨#[c]⟩ : Str).cps).foldl (· ++ ·) #[]⟩ : Str) = ⟨Array.replicate k.toNat c⟩ := by
        rw [rep_arr]
        simp
      rw [e2]
      refine ⟨?_, .str ⟨Array.replicate k.toNat c⟩, H, I.tok _, ⟨_, rfl⟩, q⟩
      show (Array.replicate k.toNat c).size ≤ _
      rw [Array.size_replicate]
      exact Nat.le_of_lt (small1000 (by omega))
/-! ### tuples of texts among the module's names -/
def strOf : Value → Option Str
  | .str z _ => some z
  | _ => none
def tupB (K : PySem.W.Frag) (x : Str) (zs : List Str) : Bool := match K.lookup (He.ga K x) with
  | some ⟨.type c, _, .seq its _, _⟩ => decide (c = "tuple") && decide (its.toList.map strOf = zs.map some)
  | _ => false
theorem vals_strs : ∀ {us : List Value} {zs : List Str}, us.map strOf = zs.map some → Vals (zs.map V.str) us
  | [], [], _ => .nil
  | u :: us, z :: zs, h => by
    have h1 : strOf u = some z := by simpa using (List.cons.inj h).1
    have h2 : us.map strOf = zs.map some := (List.cons.inj h).2
    refine .cons ?_ (vals_strs h2)
    cases u with
    | str y t =>
      have : y = z := by simpa [strOf] using h1
      exact ⟨t, by rw [this]⟩
    | _ => cases h1
  | [], _ :: _, h => by simp at h
  | _ :: _, [], h => by simp at h
theorem tupB_ok {K : PySem.W.Frag} {x : Str} {zs : List Str} (h : tupB K x zs = true) (hz : zs.length ≤ 1000) (H : Hp) : SqT K H (He.ga K x) (zs.map V.str) := by
  unfold tupB at h
  cases e : K.lookup (He.ga K x) with
  | none =>
    rw [e] at h
    cases h
  | some o =>
    obtain ⟨oc, od, dt, sl⟩ := o
    rw [e] at h
    cases oc with
    | type c =>
      cases dt with
      | seq its n =>
        have h : (decide (c = "tuple") && decide (its.toList.map strOf = zs.map some)) = true := h
        rw [Bool.and_eq_true] at h
        have h2 := of_decide_eq_true h.2
        have hv := vals_strs h2
        have hl := hv.length
        rw [List.length_map] at hl
        refine .inr ⟨_, its, n, e, ?_, rfl, ?_, hv⟩
        · show Value.type c = Value.type "tuple"
          rw [of_decide_eq_true h.1]
        · have : its.size = its.toList.length := by simp
          rw [this, ← hl]
          exact Nat.le_of_lt (small1000 hz)
      | _ => cases h
    | _ => cases dt <;> cases h
/-! ### things by their kind -/
inductive TyV (H : Hp) : V → String → Prop
  | bl (b : Bool) : TyV H (.bl b) "bool"
  | non : TyV H .non "NoneType"
  | int (n : Int) : TyV H (.int n) "int"
  | str (z : Str) : TyV H (.str z) "str"
  | lst {l : Addr} {xs : List V} : H l = some (.lst xs) → TyV H (.ref l) "list"
  | tup {l : Addr} {xs : List V} : H l = some (.tup xs) → TyV H (.ref l) "tuple"
  | dct {l : Addr} {kvs : List (Key × V)} : H l = some (.dK kvs) → TyV H (.ref l) "dict"
theorem TyV.kp {H H' : Hp} {v : V} {n : String} (h : TyV H v n) (a : Kp H H') : TyV H' v n := by
  cases h with
  | bl b => exact .bl b
  | non => exact .non
  | int n => exact .int n
  | str z => exact .str z
  | lst h => exact .lst (a.lst h)
  | tup h => exact .tup (a.tup h)
  | dct h => exact .dct (a.dct h)
theorem TyV.x {K : PySem.W.Frag} {H : Hp} {v : V} {n : String} (h : TyV H v n) : TyX K H v (.type n) := by
  cases h with
  | bl b => exact .base (.bl b)
  | non => exact .base .non
  | int n => exact .base (.int n)
  | str z => exact .base (.str z)
  | lst h => exact .base (.lst h)
  | tup h => exact .base (.tup h)
  | dct h => exact .base (.dK h)
theorem TyV.noStr {H : Hp} {v : V} {n : String} (h : TyV H v n) (ne : n ≠ "str") : kitB n "str" = some false := by
  cases h with
  | str z => exact absurd rfl ne
  | _ => decide +kernel
theorem TyV.noTup {H : Hp} {v : V} {n : String} (h : TyV H v n) (ne : n ≠ "tuple") : kitB n "tuple" = some false := by
  cases h with
  | tup z => exact absurd rfl ne
  | _ => decide +kernel
/-- is_name's answer -/
def NmV (H : Hp) (x : V) (k : Bool) : Prop := (∃ n, TyV H x n ∧ n ≠ "str" ∧ k = false) ∨ ∃ z : Str, x = .str z ∧ z.length ≤ 1000 ∧ k = nmB z
theorem NmV.kp {H H' : Hp} {x : V} {k : Bool} (h : NmV H x k) (a : Kp H H') : NmV H' x k := by
  rcases h with ⟨n, t, r⟩ | h
  · exact .inl ⟨n, t.kp a, r⟩
  · exact .inr h
theorem NmV.of_nm {H : Hp} {z : Str} (h : nmB z = true) : NmV H (.str z) true := by
  refine .inr ⟨z, rfl, ?_, h.symm⟩
  unfold nmB at h
  rw [Bool.and_eq_true, Bool.and_eq_true] at h
  have := of_decide_eq_true h.2.1
  omega
/-! ### lists of names -/
theorem nd_range {n : Nat} {F : Nat → Str} (h : ∀ i j, i < n → j < n → F i = F j → i = j) : ((List.range n).map F).Nodup := by
  unfold List.Nodup
  rw [List.pairwise_map]
  refine List.Pairwise.imp_of_mem (R := fun a b => a ≠ b) (fun {a b} ha hb hab e => hab (h a b (List.mem_range.mp ha) (List.mem_range.mp hb) e)) List.nodup_range
theorem nm_mid {a b : Str} {c : Nat} (ha : a.cps.toList.all smB = true) (hb : b.cps.toList.all smB = true) (hc : smB c = true) (hl : a.length + b.length ≤ 7) : nmB (a ++ ⟨#[c]⟩ ++ b) = true := by
  unfold nmB
  have l1 : (⟨#[c]⟩ : Str).length = 1 := rfl
  have e : (a ++ ⟨#[c]⟩ ++ b).length = a.length + 1 + b.length := by rw [Str.length_append, Str.length_append, l1]
  have e2 : (a ++ ⟨#[c]⟩ ++ b).cps.toList = a.cps.toList ++ [c] ++ b.cps.toList := by
    show ((a.cps ++ #[c]) ++ b.cps).toList = _
    simp
  rw [e, e2, decide_eq_true (by omega), decide_eq_true (by omega), List.all_append, List.all_append, ha, hb]
  simp [hc]
theorem inj_mid {a b : Str} {c d : Nat} (h : a ++ (⟨#[c]⟩ : Str) ++ b = a ++ ⟨#[d]⟩ ++ b) : c = d := by
  have e2 : ∀ x : Nat, (a ++ (⟨#[x]⟩ : Str) ++ b).cps.toList = a.cps.toList ++ ([x] ++ b.cps.toList) := fun x => by
    show ((a.cps ++ #[x]) ++ b.cps).toList = _
    simp
  have h2 : (a ++ (⟨#[c]⟩ : Str) ++ b).cps.toList = (a ++ (⟨#[d]⟩ : Str) ++ b).cps.toList := by rw [h]
  rw [e2, e2] at h2
  have h3 := List.append_cancel_left h2
  exact (List.cons.inj h3).1
theorem nm_rep {c n : Nat} (hc : smB c = true) (h1 : 1 ≤ n) (h8 : n ≤ 8) : nmB ⟨Array.replicate n c⟩ = true := by
  unfold nmB
  have e : (⟨Array.replicate n c⟩ : Str).length = n := by show (Array.replicate n c).size = n; simp
  rw [e, decide_eq_true h1, decide_eq_true h8]
  simp [hc]
theorem all_cut {z : Str} (h : z.cps.toList.all smB = true) (lo hi : Option Int) : (cutS z lo hi).cps.toList.all smB = true := by
  rw [List.all_eq_true] at h ⊢
  intro c hc
  unfold cutS at hc
  rw [List.toList_toArray] at hc
  exact h c (List.mem_of_mem_drop (List.mem_of_mem_take hc))
theorem all_join : ∀ ys : List Str, (∀ y ∈ ys, y.cps.toList.all smB = true) → (Str.join "" ys).cps.toList.all smB = true
  | [], _ => rfl
  | [y], h => h y (by simp)
  | x :: z :: r, h => by
    have ih := all_join (z :: r) fun y hy => h y (List.mem_cons_of_mem _ hy)
    show (x ++ "" ++ Str.join "" (z :: r)).cps.toList.all smB = true
    have e : (x ++ "" ++ Str.join "" (z :: r)).cps.toList = x.cps.toList ++ (Str.join "" (z :: r)).cps.toList := by
      show ((x.cps ++ #[]) ++ (Str.join "" (z :: r)).cps).toList = _
      simp
    rw [e, List.all_append, ih, h x (by simp)]
    rfl
theorem letter_at : ∀ j, j < 26 → ("abcdefghijklmnopqrstuvwxyz" : Str).cps.toList[j]? = some (97 + j) := by decide +kernel
theorem letter_sm {j : Nat} (h : j < 26) : smB (97 + j) = true := by
  unfold smB
  rw [decide_eq_true (by omega), decide_eq_true (by omega)]
  rfl
end Zk
set_option Elab.async false
set_option linter.all false
set_option maxRecDepth 100000
set_option maxHeartbeats 2000000
/-! Sets that comprehensions make: of texts, of ints, of tuples of texts; min, max of two texts. -/
namespace Zk
open PySem PySem.Spec PyProof.Rows L2
/-! ### min, max of two texts -/
def sLt (x y : Str) : Bool := decide (x.cps.toList < y.cps.toList)
section
variable {prog : Program} {w : World} {A : Around} {E : Value → Shared → Prop} {s : Shared}
theorem cmpTxtLt {P : Nat → Value → Prop} (val : Nat → Str) (hval : ∀ i v, P i v → ∃ t, v = .str (val i) t) : CmpOf prog w A .Lt P (fun i j => sLt (val i) (val j)) := fun i j vi vj s Q E hi hj h => by
  obtain ⟨t, rfl⟩ := hval i vi hi
  obtain ⟨u, rfl⟩ := hval j vj hj
  exact richCompare_gives (op := .Lt) (typeIs_str s _ t) (typeIs_str s _ u) F.slot_str_lt F.entry_str_lt (F.args_str_lt_2 _ _) (gives_str_lt _ _ t u) (fun x => nomatch x) h
theorem cmpTxtGt {P : Nat → Value → Prop} (val : Nat → Str) (hval : ∀ i v, P i v → ∃ t, v = .str (val i) t) : CmpOf prog w A .Gt P (fun i j => sLt (val j) (val i)) := fun i j vi vj s Q E hi hj h => by
  obtain ⟨t, rfl⟩ := hval i vi hi
  obtain ⟨u, rfl⟩ := hval j vj hj
  exact richCompare_gives (op := .Gt) (typeIs_str s _ t) (typeIs_str s _ u) F.slot_str_gt F.entry_str_gt (F.args_str_gt_2 _ _) (gives_str_gt _ _ t u) (fun x => nomatch x) h
def twoAt (x y : Str) : Nat → Str := fun i => if i = 0 then x else y
theorem twoAt_of {x y : Str} {t u : Tok} {i : Nat} {v : Value} (h : (#[Value.str x t, Value.str y u] : Array Value)[i]? = some v) : ∃ t, v = .str (twoAt x y i) t := by
  match i with
  | 0 => exact ⟨t, (Option.some.inj h).symm⟩
  | 1 => exact ⟨u, (Option.some.inj h).symm⟩
  | n + 2 => simp at h
theorem two_fresh {a b : Value} {c : Addr} (hc : c ∈ [(s.heap.push { cls := .type "tuple", data := .seq #[a, b] }).objs.size, s.heap.objs.size]) (o : Obj) : c < ((s.heap.push { cls := .type "tuple", data := .seq #[a, b] }).push o).objs.size := by
  have e1 : (s.heap.push { cls := .type "tuple", data := .seq #[a, b] }).objs.size = s.heap.objs.size + 1 := Heap.size_push ..
  have e2 : ((s.heap.push { cls := .type "tuple", data := .seq #[a, b] }).push o).objs.size = s.heap.objs.size + 1 + 1 := by rw [Heap.size_push, e1]
  rw [e1] at hc
  rw [e2]
  rcases List.mem_cons.mp hc with q | q
  · rw [q]; exact Nat.lt_succ_self _
  · rw [List.mem_singleton.mp q]; exact Nat.lt_succ_of_lt (Nat.lt_succ_self _)
theorem two_kept {a b : Value} {o' : Obj} {h' : Heap} (hk : ∀ b' o, b' ∉ [(s.heap.push { cls := .type "tuple", data := .seq #[a, b] }).objs.size] → ((s.heap.push { cls := .type "tuple", data := .seq #[a, b] }).push o').get? b' = some o → h'.get? b' = some o) : ∀ c o, s.heap.get? c = some o → h'.get? c = some o := fun c o e => by
  refine hk c o (fun hm => ?_) (Heap.get?_push_of_some _ (Heap.get?_push_of_some _ e))
  have e1 : (s.heap.push { cls := .type "tuple", data := .seq #[a, b] }).objs.size = s.heap.objs.size + 1 := Heap.size_push ..
  have lt := Heap.lt_size e
  rw [List.mem_singleton.mp hm, e1] at lt
  exact Nat.lt_irrefl _ (Nat.lt_of_succ_lt lt)
theorem min_two_txt {x y : Str} {t u : Tok} {Q : Value → Shared → Prop} (hh : A.handled = none) (h : ∀ h' tk, (∀ c o, s.heap.get? c = some o → h'.get? c = some o) → Q (if sLt y x = true then .str y u else .str x t) { s with heap := h', toks := tk }) :
    wpAny (model prog w) A (call (.builtin "min") [.str x t, .str y u]) Q E s := by
  have hT : (s.heap.push { cls := .type "tuple", data := .seq #[.str x t, .str y u] }).IsTuple s.heap.objs.size #[.str x t, .str y u] := ⟨_, Heap.get?_push_size _ rfl, rfl, 0, rfl⟩
  refine call_min_two (wpAny_pyIter_tuple hT ⟨_, [_, s.heap.objs.size], [_], _, _, _, _, rfl, Walks.tuple (A := A.in1) hh _ s.heap.objs.size (by rw [Heap.size_push]; exact Nat.ne_of_lt (Nat.lt_succ_self _)) #[.str x t, .str y u],
    ⟨⟨_, Heap.get?_push_size _ rfl, rfl, rfl⟩, hT.push _⟩, fun c hc => two_fresh hc _, by simp, cmpTxtLt (twoAt x y) (fun _ _ => twoAt_of), fun v h' tk hP hk => ?_⟩)
  have q := h h' tk (two_kept hk)
  have e : v = if sLt y x = true then Value.str y u else Value.str x t := by
    have hP' : (#[Value.str x t, Value.str y u] : Array Value)[argBest (fun i j => sLt (twoAt x y i) (twoAt x y j)) 1]? = some v := hP
    have eb : argBest (fun i j => sLt (twoAt x y i) (twoAt x y j)) 1 = if sLt y x = true then 1 else 0 := rfl
    rw [eb] at hP'
    cases hc : sLt y x with
    | true => rw [hc] at hP'; exact (Option.some.inj hP').symm
    | false => rw [hc] at hP'; exact (Option.some.inj hP').symm
  rw [e]
  exact q
theorem max_two_txt {x y : Str} {t u : Tok} {Q : Value → Shared → Prop} (hh : A.handled = none) (h : ∀ h' tk, (∀ c o, s.heap.get? c = some o → h'.get? c = some o) → Q (if sLt x y = true then .str y u else .str x t) { s with heap := h', toks := tk }) :
    wpAny (model prog w) A (call (.builtin "max") [.str x t, .str y u]) Q E s := by
  have hT : (s.heap.push { cls := .type "tuple", data := .seq #[.str x t, .str y u] }).IsTuple s.heap.objs.size #[.str x t, .str y u] := ⟨_, Heap.get?_push_size _ rfl, rfl, 0, rfl⟩
  refine call_max_two (wpAny_pyIter_tuple hT ⟨_, [_, s.heap.objs.size], [_], _, _, _, _, rfl, Walks.tuple (A := A.in1) hh _ s.heap.objs.size (by rw [Heap.size_push]; exact Nat.ne_of_lt (Nat.lt_succ_self _)) #[.str x t, .str y u],
    ⟨⟨_, Heap.get?_push_size _ rfl, rfl, rfl⟩, hT.push _⟩, fun c hc => two_fresh hc _, by simp, cmpTxtGt (twoAt x y) (fun _ _ => twoAt_of), fun v h' tk hP hk => ?_⟩)
  have q := h h' tk (two_kept hk)
  have e : v = if sLt x y = true then Value.str y u else Value.str x t := by
    have hP' : (#[Value.str x t, Value.str y u] : Array Value)[argBest (fun i j => sLt (twoAt x y j) (twoAt x y i)) 1]? = some v := hP
    have eb : argBest (fun i j => sLt (twoAt x y j) (twoAt x y i)) 1 = if sLt x y = true then 1 else 0 := rfl
    rw [eb] at hP'
    cases hc : sLt x y with
    | true => rw [hc] at hP'; exact (Option.some.inj hP').symm
    | false => rw [hc] at hP'; exact (Option.some.inj hP').symm
  rw [e]
  exact q
end
def rMinS : List V → Hp → VK → Prop := fun xs H Q => ∃ x y : Str, xs = [.str x, .str y] ∧ Q (.str (if sLt y x = true then y else x)) H
def rMaxS : List V → Hp → VK → Prop := fun xs H Q => ∃ x y : Str, xs = [.str x, .str y] ∧ Q (.str (if sLt x y = true then y else x)) H
section
variable {X : Cx}
theorem call_minS (hc : X.calm = true) : CallR X (.builtin "min") rMinS := by
  intro pins s σ H xs us Q I r h
  obtain ⟨x, y, rfl, q⟩ := h
  obtain ⟨u, w', rfl, ⟨t, rfl⟩, ⟨t', rfl⟩⟩ := vals2 r
  refine min_two_txt (I.ok.hd hc) fun h' tk k => ⟨_, H, I.kept k, ?_, q⟩
  cases hj : sLt y x
  · exact ⟨_, rfl⟩
  · exact ⟨_, rfl⟩
theorem call_maxS (hc : X.calm = true) : CallR X (.builtin "max") rMaxS := by
  intro pins s σ H xs us Q I r h
  obtain ⟨x, y, rfl, q⟩ := h
  obtain ⟨u, w', rfl, ⟨t, rfl⟩, ⟨t', rfl⟩⟩ := vals2 r
  refine max_two_txt (I.ok.hd hc) fun h' tk k => ⟨_, H, I.kept k, ?_, q⟩
  cases hj : sLt x y
  · exact ⟨_, rfl⟩
  · exact ⟨_, rfl⟩
end
/-! ### a set comprehension whose element is added by any rule of set.add -/
abbrev newSetObj (w : World) : Obj := { cls := .type "set", dict := none, data := .set #[] 0 (.fresh 0 0 (!w.params.followText "set-order")) }
def tScG (SO : Addr → HO) (r : V → List V → Hp → VK → Prop) (wi : TI) (g : TG) (tt : TT) (te : TE) (vs : List Nat) : TE := fun σ H Q => wi σ H fun J H1 => ∀ D, H1 D = none → ∃ W : Nat → Nat → Hp → Prop, (∃ m, W 0 m (upd H1 D (SO D))) ∧ ∀ i m H, W i m H →
  (J.stop i H ∧ Q (.ref D) H) ∨ (J.go i H ∧ ∃ Nx : Hp → Prop, (∀ H', Nx H' → ∃ m', m' < m ∧ W (i + 1) m' H') ∧ ∀ x H', J.yld i H x H' → g x (wipe σ vs) H' fun σ2 H2 => wipe σ2 vs = wipe σ vs ∧ tt σ2 H2 fun b H3 =>
    if b = true then te σ2 H3 fun y H4 => r (.ref D) [y] H4 (fun _ H5 => Nx H5) else Nx H3)
section
variable {X : Cx}
/-- what a new, empty set is tracked as -/
def Starts (P : Program) (w : World) (SO : Addr → HO) : Prop := ∀ (H : Hp) (h : Heap) (D : Addr), h.get? D = some (newSetObj w) → ObjOk P w H h D (SO D)
theorem pe_scG {SO : Addr → HO} {r : V → List V → Hp → VK → Prop} {elt tg iter : Expr} {ifs : List Expr} {scope : Scope} {own : List (PySem.Str × Nat)} {pos : Pos} {wi : TI} {g : TG} {tt : TT} {te : TE}
    (hSO : Starts X.prog X.w SO) (hc : X.calm = true) (hN : X.N.Nodup) (hi : PI X tg iter wi) (ok : BlkOk X.N X.env.scope scope own)
    (hg : ∀ (s : Shared) (H : Hp) (C : Addr) (cl : List (PySem.Str × Addr)) (fp : List Addr), PG (X.blk s H scope (compEnvC scope cl C X.env) fp) tg g)
    (ht : ∀ (s : Shared) (H : Hp) (C : Addr) (cl : List (PySem.Str × Addr)) (fp : List Addr), PTs (X.blk s H scope (compEnvC scope cl C X.env) fp) ifs tt)
    (he : ∀ (s : Shared) (H : Hp) (C : Addr) (cl : List (PySem.Str × Addr)) (fp : List Addr), PE (X.blk s H scope (compEnvC scope cl C X.env) fp) elt te)
    (ha : ∀ (s : Shared) (H : Hp) (C : Addr) (cl : List (PySem.Str × Addr)) (fp : List Addr), MtR (X.blk s H scope (compEnvC scope cl C X.env) fp) "set.add" r)
    (hs : ∀ x, foldedSetIterable iter X.env x = pure x := by intro _; rfl) : PE X (.SetComp elt [⟨tg, iter, ifs, 0⟩] scope pos) (tScG SO r wi g tt te (own.map (·.2))) := by
  refine ⟨fun pins s σ H Q I h => ?_⟩
  rw [PpSet.eval_SetComp]
  have free : ∀ y ∈ scope.names, y.2 = .free → ∃ c, X.env.cells.lookup y.1 = some c := fun y hy e => (ok.free y hy e).elim (fun k => I.ok.has _ (.inl k)) (fun k => I.ok.has _ (.inr k))
  refine wpAny_comprehension_free (use := none) rfl hs (closure_ok free) ok.kind (fun y hy e => by rw [ok.uniq y hy, e]) (thn (hi.run pins s σ H _ I h) fun xv s1 hx => thn hx fun itv s2 ⟨it, fp, tn, J, H2, e, I2, T, st2, f2, q⟩ => ?_)
  subst e
  refine PpSet.newSet_ok (newEnv_comp ?_)
  generalize eD : s2.heap.objs.size = D
  obtain ⟨W, ⟨m0, w0⟩, turn⟩ := q D (I2.hok.fresh (Nat.le_of_eq eD))
  generalize e3 : ({ s2 with heap := s2.heap.push (newSetObj X.w) } : Shared) = s3
  have k3 : s3.heap = s2.heap.push (newSetObj X.w) := by rw [← e3]
  generalize eH : upd H2 D (SO D) = H3 at w0
  have I3 : Inv X pins σ H3 s3 := by
    rw [← e3, ← eH]
    exact I2.laid (t' := s2.toks) (fun b o e => Heap.get?_push_of_some _ e) (Nat.le_of_eq eD) (hSO _ _ D (by rw [← eD]; exact Heap.get?_push_size _ rfl))
  have f3 : ∀ b ∈ fp, FpOk X pins H3 b ∧ b < s3.heap.objs.size := fun b hb => by
    obtain ⟨o, eo, _⟩ := T.obj _ _ st2 b hb
    have lt := Heap.lt_size eo
    refine ⟨⟨?_, (f2 b hb).2⟩, by rw [k3, Heap.size_push]; exact Nat.lt_succ_of_lt lt⟩
    rw [← eH, upd_ne (by rw [← eD]; exact Nat.ne_of_lt lt)]
    exact (f2 b hb).1
  have I4 := block_start I3 ok hN f3
  have st3 : tn 0 s3.heap := T.keep _ _ _ st2 fun b _ o e => by rw [k3]; exact Heap.get?_push_of_some _ e
  generalize ecl : cellsFrom (s3.heap.objs.size + 1) scope.names (cloFrom X.env.cells scope.names []) = cl at I4 ⊢
  have pg := hg s3 H3 s3.heap.objs.size cl fp
  have pt := ht s3 H3 s3.heap.objs.size cl fp
  have pe := he s3 H3 s3.heap.objs.size cl fp
  have pa := ha s3 H3 s3.heap.objs.size cl fp
  show codeAny _ _ (.compStart (.SetComp elt [⟨tg, iter, ifs, 0⟩] scope pos) 0 (.ref it) (.ref D) (compEnvC scope cl s3.heap.objs.size X.env)) (compPost (model X.prog X.w) X.A X.xe none _ (.ref D) s3.heap.objs.size) { s3 with heap := pushCells (s3.heap.push { cls := .type "dict", data := .dict #[] }) scope.names }
  generalize ece : compEnvC scope cl s3.heap.objs.size X.env = ce at I4 pg pt pe pa ⊢
  have eL : ce.locals = s3.heap.objs.size := by rw [← ece]; rfl
  generalize e4 : ({ s3 with heap := pushCells (s3.heap.push { cls := .type "dict", data := .dict #[] }) scope.names } : Shared) = s4 at I4 ⊢
  have st4 : tn 0 s4.heap := T.keep _ _ _ st3 fun b _ o e => by rw [← e4]; exact pushCells_keeps _ _ _ _ (Heap.get?_push_of_some _ e)
  have stat : ∀ {σ' : L2.St} {H' : Hp} {s' : Shared}, Inv (X.blk s3 H3 scope ce fp) [] σ' H' s' → (∀ b ∈ fp, H' b = none) → ∀ b ∈ fp, FpOk (X.blk s3 H3 scope ce fp) [] H' b := fun {σ' H' s'} J' hn b hb =>
    ⟨hn b hb, (J'.ok.exf b hb).1, J'.ok.exfs b hb, .inl hb, fun x c e => (J'.ok.exf b hb).2 x c e, fun p hp => absurd (show p ∈ ([] : List (Addr × Obj)) ++ [] from hp) (by simp)⟩
  have loop : codeAny (model X.prog X.w) X.A (.compLoop (.SetComp elt [⟨tg, iter, ifs, 0⟩] scope pos) 0 (.ref it) (.ref D) ce) (compPost (model X.prog X.w) X.A X.xe none (EP X pins σ Q) (.ref D) s3.heap.objs.size) s4 := by
    refine PpSet.compLoopS_any (fun n s' => ∃ i H', Inv (X.blk s3 H3 scope ce fp) [] (wipe σ (own.map (·.2))) H' s' ∧ tn i s'.heap ∧ (∀ b ∈ fp, H' b = none) ∧ W i n H') ?_ m0 ⟨0, H3, I4, st4, fun b hb => (f3 b hb).1.1, w0⟩
    rintro n s5 ⟨i, H5, I5, st5, n5, w5⟩
    rcases turn i n H5 w5 with ⟨stop, qq⟩ | ⟨go, Nx, hNx, step⟩
    · refine thnF (T.done (X.blk s3 H3 scope ce fp) rfl rfl rfl hc i [] s5 _ H5 (fun _ _ => False) I5 (stat I5 n5) st5 stop) fun rr s6 ⟨hr, I6⟩ => ?_
      subst hr
      have I7 : Inv X pins σ H5 s6 := I3.call' (ch := fp) I6.os I6.base I6.hok I6.bare fun b hb => ⟨(f3 b hb).1.2.2.2.1, (f3 b hb).1.2.1, (f3 b hb).1.2.2.2.2.1, (f3 b hb).1.2.2.2.2.2⟩
      have nC : H5 s3.heap.objs.size = none := by rw [← eL]; exact I6.free
      obtain ⟨mm, hn, _⟩ := I6.loc
      have hn : s6.heap.Ns ce.locals mm := hn
      rw [eL] at hn
      obtain ⟨u0, u1, u2, u3, u4, u5⟩ := I3.fpOk (Nat.le_refl _) nC
      exact ⟨mm, hn, fun h'' sb => ⟨.ref D, H5, I7.turned (t' := s6.toks) (fun b o hb e => (sb.2 b hb).trans e) u0 u1 u3 u4 u5, rfl, qq⟩⟩
    · refine thnF (T.item (X.blk s3 H3 scope ce fp) rfl rfl rfl hc i [] s5 _ H5 (fun _ _ => False) I5 (stat I5 n5) st5 go) fun rr s6 ⟨u, hr, h6⟩ => ?_
      subst hr
      refine thnF h6 fun _ s7 ⟨x, H7, I7, r7, y7, st7, n7⟩ => ?_
      have I7' := I7.pinned (stat I7 n7) (T.obj _ _ st7)
      have fin : ∀ {s' : Shared} {H' : Hp} {σ8 : L2.St}, wipe σ8 (own.map (·.2)) = wipe σ (own.map (·.2)) → Inv (X.blk s3 H3 scope ce fp) ([] ++ pinsAt fp s7.heap) σ8 H' s' → Nx H' → ∃ m, m < n ∧ ∃ i H', Inv (X.blk s3 H3 scope ce fp) [] (wipe σ (own.map (·.2))) H' s' ∧ tn i s'.heap ∧ (∀ b ∈ fp, H' b = none) ∧ W i m H' := fun {s' H' σ8} hw8 I' nx => by
        obtain ⟨m', hm, w'⟩ := hNx H' nx
        have held : ∀ b ∈ fp, ∀ o, s7.heap.get? b = some o → s'.heap.get? b = some o ∧ H' b = none := fun b hb o e => by
          have z := I'.pin (b, o) (List.mem_append_right _ (List.mem_append_right _ (mem_pinsAt hb e)))
          exact ⟨z.1, z.2.1⟩
        refine ⟨m', hm, i + 1, H', (I'.unpinned (pins := [])).weak (by rw [← hw8, wipe_length]) (fun j v e => (wipe_some (hw8 ▸ e)).1), T.keep _ _ _ st7 fun b hb o e => (held b hb o e).1, fun b hb => ?_, w'⟩
        obtain ⟨o, e, _⟩ := T.obj _ _ st7 b hb
        exact (held b hb o e).2
      refine thnF (pg.run _ s7 _ H7 x u _ I7' r7 (step x H7 y7)) fun _ s8 ⟨σ8, H8, I8, hw8, q8⟩ => thnF (pt.run _ s8 σ8 H8 _ I8 q8) fun b s9 ⟨H9, I9, q9⟩ => ?_
      cases b with
      | false => simp only [Bool.false_eq_true, if_false] at q9 ⊢; exact fin hw8 I9 q9
      | true =>
        simp only [if_true] at q9 ⊢
        refine thnF (pe.run _ s9 σ8 H9 _ I9 q9) fun z s10 ⟨yv, H10, I10, r10, nx⟩ => ?_
        exact thnF (pa _ s10 σ8 H10 (.ref D) [yv] (.ref D) [z] _ I10 rfl (.cons r10 .nil) nx) fun _ s11 ⟨_, H11, I11, _, n11⟩ => fin hw8 I11 n11
  exact PpSet.codeAny_compStart_set loop (T.self X.A 0 _ _ _ st4 loop)
end
end Zk
set_option Elab.async false
set_option linter.all false
set_option maxRecDepth 100000
set_option maxHeartbeats 4000000
/-! Sets of tuples of texts and ints: a table over the library's words on tables (TabOk, go_spec, relaid_ok). -/
namespace Zk
open PySem PySem.Spec PyProof.Rows L2
abbrev TKey := List Key
abbrev kh (P : Program) (w : World) (k : TKey) : Int := tupleKeyHash (mixKind P w) k
abbrev IsP (P : Program) (w : World) (h : Heap) (k : TKey) (a : Addr) : Prop := IsTupleKey (mixKind P w) h k a
abbrev pr (t : SetTable) (h : Int) (c : Nat) : SetTable.Probe := nth t.mask (runAt t.mask (SetTable.bits h % (t.mask + 1)) (SetTable.bits h)) c
/-- the table's entries of these members -/
abbrev ents (P : Program) (w : World) (L : List (Addr × TKey)) : List (Int × Value) := L.map fun m => (kh P w m.2, Value.ref m.1)
abbrev hshs (P : Program) (w : World) (L : List (Addr × TKey)) : List Int := L.map fun m => kh P w m.2
def Flat (v : Value) : Prop := (∃ i t, v = Value.int i t) ∨ ∃ x t, v = Value.str x t
section
variable {P : Program} {w : World} {A : Around} {E : Value → Shared → Prop} {s : Shared}
theorem flat_items {k : TKey} {vs : List Value} (h : ItemsAre (mixKind P w) k vs) : ∀ v ∈ vs, Flat v := by
  induction h with
  | nil => exact fun v hv => nomatch hv
  | cons h1 _ ih =>
    intro v hv
    cases List.mem_cons.mp hv with
    | inr z => exact ih v z
    | inl z =>
      rw [z]
      rcases keyIs_shape h1 with ⟨i, t, _, e⟩ | ⟨x, t, _, e⟩
      · exact .inl ⟨i, t, e⟩
      · exact .inr ⟨x, t, e⟩
theorem flat_cls (n : Nat) {v : Value} (f : Flat v) : ofAClassStatement n v = pure false := by
  rcases f with ⟨i, t, rfl⟩ | ⟨x, t, rfl⟩ <;> cases n <;> rfl
theorem flat_hash (n : Nat) {v : Value} (f : Flat v) : ∃ b, hashByValue n v = pure b := by
  rcases f with ⟨i, t, rfl⟩ | ⟨x, t, rfl⟩
  · exact ⟨true, by cases n <;> rfl⟩
  · exact ⟨false, by cases n <;> rfl⟩
/-- a tuple of such is of no class statement -/
theorem cls_tup {k : TKey} {b : Addr} {Q : Bool → Shared → Prop} (hk : IsP P w s.heap k b) (h : Q false s) : wpAny (model P w) A (ofAClassStatement 8 (.ref b)) Q E s := by
  have ty := hk.typeIs
  obtain ⟨o, items, n, ho, _, hd, its⟩ := hk
  have fl := flat_items its
  unfold ofAClassStatement
  refine wpAny_bind (wpAny_typeOf ty ?_); dsimp only
  simp only [show (("tuple" : String) == "tuple") = true by decide, if_true, Bool.not_true, Bool.false_eq_true, if_false]
  try (refine wpAny_bind (wpAny_pure ?_); try simp only [Bool.not_true, Bool.false_eq_true, if_false])
  show wpAny (model P w) A (seqItems? (.ref b) >>= _) _ E s
  refine wpAny_bind (wpAny_seqItems ho hd ?_); dsimp only
  refine wpAny_bind ?_
  show wpAny (model P w) A (forIn items _ _) _ E s
  rw [← Array.forIn_toList]
  refine wpAny_forIn_list _ (fun left r s' => (∀ v ∈ left, Flat v) ∧ s' = s ∧ r.1 = none) _ ?_ ?_ _ _ ⟨fl, rfl, rfl⟩
  · rintro v left r s' ⟨al, rfl, hr⟩
    rw [flat_cls _ (al v List.mem_cons_self)]
    refine wpAny_bind (wpAny_pure ?_); simp only [Bool.false_eq_true, if_false]
    exact wpAny_pure ⟨fun u hu => al u (List.mem_cons_of_mem _ hu), rfl, rfl⟩
  · rintro ⟨r1, r2⟩ s' ⟨_, rfl, hr⟩
    cases (show r1 = none from hr)
    exact wpAny_pure h
/-- whether its hash is by value is told -/
theorem hashed_tup {k : TKey} {b : Addr} {Q : Bool → Shared → Prop} (hk : IsP P w s.heap k b) (h : ∀ c, Q c s) : wpAny (model P w) A (hashByValue 8 (.ref b)) Q E s := by
  have ty := hk.typeIs
  obtain ⟨o, items, n, ho, _, hd, its⟩ := hk
  have fl := flat_items its
  unfold hashByValue
  refine wpAny_bind (wpAny_specialOf ty F.slot_tuple_hash.lookup ?_)
  show wpAny (model P w) A (seqItems? (.ref b) >>= _) _ E s
  refine wpAny_bind (wpAny_seqItems ho hd (wpAny_bind ?_))
  show wpAny (model P w) A (forIn items _ _) _ E s
  rw [← Array.forIn_toList]
  refine wpAny_forIn_list _ (fun left r s' => (∀ v ∈ left, Flat v) ∧ s' = s ∧ r.1 = none) _ ?_ ?_ _ _ ⟨fl, rfl, rfl⟩
  · rintro v left r s' ⟨al, rfl, hr⟩
    obtain ⟨c, e⟩ := flat_hash 7 (al v List.mem_cons_self)
    rw [e]
    refine wpAny_bind (wpAny_pure ?_)
    cases c with
    | true => simp only [Bool.not_true, Bool.false_eq_true, if_false]; exact wpAny_pure ⟨fun u hu => al u (List.mem_cons_of_mem _ hu), rfl, rfl⟩
    | false => simp only [Bool.not_false, if_true]; exact wpAny_pure (wpAny_pure (h false))
  · rintro ⟨r1, r2⟩ s' ⟨_, rfl, hr⟩
    cases (show r1 = none from hr)
    exact wpAny_pure (h true)
/-- nothing is shown by a search among such tuples -/
theorem unseen {k : TKey} {b : Addr} {Q : Bool → Shared → Prop} (hk : IsP P w s.heap k b) {ys : List Value} (hy : ∀ y ∈ ys, ∃ k' c, y = Value.ref c ∧ IsP P w s.heap k' c) (h : Q false s) : wpAny (model P w) A (searchCouldBeSeen (.ref b) ys) Q E s := by
  unfold searchCouldBeSeen
  refine wpAny_bind (wpAny_forIn_list _ (fun left r s' => (∀ y ∈ left, ∃ k' c, y = Value.ref c ∧ IsP P w s.heap k' c) ∧ s' = s ∧ r.1 = none) _ ?_ ?_ _ _ ⟨hy, rfl, rfl⟩)
  · rintro v left r s' ⟨al, rfl, hr⟩
    obtain ⟨k', c, rfl, ic⟩ := al v List.mem_cons_self
    have al' : ∀ y ∈ left, ∃ k' c, y = Value.ref c ∧ IsP P w s'.heap k' c := fun u hu => al u (List.mem_cons_of_mem _ hu)
    dsimp only
    by_cases hv : (b == c || (carriedByValue (.ref b) && carriedByValue (.ref c))) = true
    · exact wp_if_pos hv (wpAny_pure ⟨al', rfl, rfl⟩)
    · refine wp_if_neg hv (wpAny_bind (wpAny_eqIsQuiet_tuple hk ?_)); simp only [Bool.not_true, Bool.false_eq_true, if_false]
      refine wpAny_bind (wpAny_eqIsQuiet_tuple ic ?_); simp only [Bool.not_true, Bool.false_eq_true, if_false]
      refine wpAny_bind (cls_tup hk ?_); simp only [Bool.false_eq_true, if_false]
      refine wpAny_bind (cls_tup ic ?_); simp only [Bool.false_eq_true, if_false]
      exact wpAny_pure ⟨al', rfl, rfl⟩
  · rintro ⟨r1, r2⟩ s' ⟨_, rfl, hr⟩
    cases (show r1 = none from hr)
    exact wpAny_pure h
/-- the set at a, its members L in the table's order -/
structure PSet (P : Program) (w : World) (h : Heap) (a : Addr) (L : List (Addr × TKey)) (es : Array (Int × Value)) (ep : Nat) (t : SetTable) : Prop where
  obj : ∃ o, h.get? a = some o ∧ o.ExactSet ∧ o.data = .set es ep t
  row : es.toList = ents P w L
  tab : TabOk t (hshs P w L)
  one : (L.map (·.2)).Nodup
  key : ∀ m ∈ L, IsP P w h m.2 m.1
  led : w.params.followText "set-order" = true ∨ t.led = true
  room : L.length * 5 < t.mask * 3
  few : L.length < 64
variable {a : Addr} {L : List (Addr × TKey)} {es : Array (Int × Value)} {ep : Nat} {t : SetTable}
theorem ents_size (h : es.toList = ents P w L) : es.size = L.length := by
  rw [← Array.length_toList, h, List.length_map]
theorem fits_of (h1 : t.place.size = es.size) (h2 : t.dummies = #[]) (h3 : es.size ≤ t.mask) : t.fits es.size = true := by
  unfold SetTable.fits SetTable.fill
  rw [h2, Bool.and_eq_true, beq_iff_eq, decide_eq_true_eq]
  exact ⟨h1, by show t.place.size + 0 ≤ t.mask; omega⟩
theorem PSet.place (R : PSet P w s.heap a L es ep t) : t.place.size = L.length := by
  rw [R.tab.sz, List.length_map]
theorem PSet.fits (R : PSet P w s.heap a L es ep t) : t.fits es.size = true := by
  have h1 := R.place
  have h2 := ents_size R.row
  have h3 := R.room
  exact fits_of (by omega) R.tab.dm (by omega)
theorem PSet.at (R : PSet P w s.heap a L es ep t) {i : Nat} {m : Addr × TKey} (h : L[i]? = some m) : es[i]? = some (kh P w m.2, Value.ref m.1) := by
  rw [← Array.getElem?_toList, R.row, List.getElem?_map, h] <;> rfl
theorem PSet.stays (R : PSet P w s.heap a L es ep t) : ¬ t.gaveWay = true := by
  unfold SetTable.gaveWay
  rw [mask_odd R.tab.mok]
  decide
theorem pr_add (t : SetTable) (h : Int) (c q : Nat) : nth t.mask (pr t h c) q = pr t h (c + q) := (nth_add t.mask c _ q).symm
theorem pr_dm (t : SetTable) (h : Int) (c : Nat) : (pr t h c).dummy = none := by
  have all : ∀ (n : Nat) (p : SetTable.Probe), p.dummy = none → (nth t.mask p n).dummy = none := by
    intro n
    induction n with
    | zero => exact fun p h => h
    | succ n ih => exact fun p h => ih (adv t.mask p) (by unfold adv; split <;> exact h)
  exact all c _ rfl
/-- the search, from its c-th step on: n the first free step -/
theorem srch (R : PSet P w s.heap a L es ep t) {x : Addr} {k : TKey} (hx : IsP P w s.heap k x) (hu : A.units < cLine) {n : Nat} (hn : n < 10 * SetTable.turns t.mask)
    (fr : (pr t (kh P w k) n).j ∉ t.place.toList) (bs : ∀ c, c < n → (pr t (kh P w k) c).j ∈ t.place.toList) {Q : SetFound → Shared → Prop} (yes : k ∈ L.map (·.2) → Q (.there none) s) (no : k ∉ L.map (·.2) → Q (.free (pr t (kh P w k) n).j false) s) (f : Nat) :
    ∀ (c : Nat) (stand : Option SetTable.Probe), stand.getD (t.probeStart (kh P w k)) = pr t (kh P w k) c → c ≤ n → n - c < f →
      (∀ (i : Nat) m, L[i]? = some m → m.2 = k → ∃ c', c ≤ c' ∧ c' < n ∧ t.place.toList[i]? = some (pr t (kh P w k) c').j) → wpAny (model P w) A (setSearchFrom a (.ref x) (kh P w k) true f stand) Q E s := by
  induction f with
  | zero => exact fun c _ _ _ z _ => absurd z (Nat.not_lt_zero _)
  | succ f ih =>
    intro c stand hst hc hf ahead
    obtain ⟨o, ho, hex, hd⟩ := R.obj
    generalize eh : kh P w k = hv at *
    rw [setSearchFrom_succ]
    refine wpAny_bind (wpAny_setState_of ho hd R.fits (wp_if_neg R.stays ?_))
    try refine wpAny_bind (wpAny_pure ?_)
    have hat : ∀ (i : Nat) m, L[i]? = some m → (es[i]?.map (·.1)).getD 0 = kh P w m.2 := fun i m hm => by rw [R.at hm] <;> rfl
    have spec := go_spec t R.tab.ris R.tab.dm (fun i => (es[i]?.map (·.1)).getD 0) hv (10 * SetTable.turns t.mask) (n - c) (pr t hv c) (pr_dm t hv c) (by omega)
      (fun q hq => by rw [pr_add]; exact bs (c + q) (by omega)) (by rw [pr_add, show c + (n - c) = n by omega]; exact fr)
    have passed : ∀ q, (∀ (k' i' : Nat), k' < q → t.place.toList[i']? = some (nth t.mask (pr t hv c) k').j → (es[i']?.map (·.1)).getD 0 ≠ hv) → ∀ (i : Nat) m c', L[i]? = some m → m.2 = k → c ≤ c' → t.place.toList[i]? = some (pr t hv c').j → c + q ≤ c' := fun q nq i m c' hm hk h1 h2 => by
      rcases Nat.lt_or_ge c' (c + q) with z | z
      · exfalso
        refine nq (c' - c) i (by omega) (by rw [pr_add, show c + (c' - c) = c' by omega]; exact h2) ?_
        rw [hat i m hm, hk, eh]
      · exact z
    rcases spec with ⟨q, i, hq, hi, hh, nq, go⟩ | ⟨nq, go⟩
    · rw [pr_add, pr_add] at go
      rw [pr_add] at hi
      have go' : t.probe (fun i => (es[i]?.map (·.1)).getD 0) hv (stand.getD (t.probeStart hv)) = some (.candidate (pr t hv (c + q)).j i (pr t hv (c + (q + 1)))) := by rw [hst]; exact go
      rw [go']
      dsimp only
      have il : i < L.length := by
        have z := (List.getElem?_eq_some_iff.mp hi).1
        rw [Array.length_toList, R.place] at z
        exact z
      obtain ⟨m, hm⟩ : ∃ m, L[i]? = some m := ⟨_, List.getElem?_eq_getElem il⟩
      have mem : m ∈ L := List.mem_of_getElem? hm
      have live : t.slot (pr t hv (c + q)).j = .live i := slot_live R.tab.ris hi
      have rest : wpAny (model P w) A (searchRest a (.ref x) hv true f es t (pr t hv (c + q)).j i (pr t hv (c + (q + 1)))) Q E s := by
        unfold searchRest
        rw [R.at hm]
        refine wpAny_bind (wpAny_holding (wpAny_eqBool_tuple hu (R.key m mem) hx (wpAny_bind (wpAny_setState_of ho hd R.fits ?_))))
        dsimp only
        by_cases same : m.2 = k
        · exact wp_if_pos (by simp [same]) (wpAny_pure (yes (List.mem_map.mpr ⟨m, mem, same⟩)))
        · refine wp_if_neg (by simp [same]) ?_
          try refine wpAny_bind (wpAny_pure ?_)
          rw [sameMem]
          simp only [if_true, live, R.at hm]
          refine wpAny_bind (wpAny_isSame_ref_self (wpAny_bind (wpAny_pure ?_)))
          simp only [if_true]
          refine wp_if_neg (by simp [same]) (ih (c + (q + 1)) _ rfl (by omega) (by omega) fun j m' hj hk => ?_)
          obtain ⟨c', a1, a2, a3⟩ := ahead j m' hj hk
          have ge := passed q nq j m' c' hj hk a1 a3
          refine ⟨c', ?_, a2, a3⟩
          rcases Nat.lt_or_ge (c + q) c' with y | y
          · omega
          · exfalso
            rw [Nat.le_antisymm y ge] at a3
            have l2 := slot_live R.tab.ris a3
            rw [live] at l2
            injection l2 with l2
            rw [← l2, hm] at hj
            cases hj
            exact same hk
      by_cases ld : t.led = true
      · refine wp_if_neg (by simp [ld]) ?_
        try refine wpAny_bind (wpAny_pure ?_)
        exact rest
      · refine wp_if_pos (by simp [ld]) (wpAny_bind (unseen hx (fun y hy => ?_) (wp_if_neg (by decide) ?_)))
        · obtain ⟨e, he, ee⟩ := List.mem_map.mp hy
          have he1 : e ∈ es ∧ e.1 = hv := by simpa using he
          have he2 : e ∈ es.toList := by simpa using he1.1
          rw [R.row] at he2
          obtain ⟨m2, hm2, e2⟩ := List.mem_map.mp he2
          exact ⟨m2.2, m2.1, by rw [← ee, ← e2], R.key m2 hm2⟩
        · try refine wpAny_bind (wpAny_pure ?_)
          exact rest
    · rw [pr_add, show c + (n - c) = n by omega] at go
      have go' : t.probe (fun i => (es[i]?.map (·.1)).getD 0) hv (stand.getD (t.probeStart hv)) = some (.empty (pr t hv n).j none) := by rw [hst]; exact go
      rw [go']
      refine wpAny_pure (no fun hm => ?_)
      obtain ⟨m, h0, hk⟩ := List.mem_map.mp hm
      obtain ⟨j, hj⟩ := List.mem_iff_getElem?.mp h0
      obtain ⟨c', a1, a2, a3⟩ := ahead j m hj hk
      have ge := passed (n - c) nq j m c' hj hk a1 a3
      omega
/-- the search as adding asks for it -/
theorem srch_at (R : PSet P w s.heap a L es ep t) {x : Addr} {k : TKey} (hx : IsP P w s.heap k x) (hu : A.units < cLine) {Q : SetFound → Shared → Prop} (yes : k ∈ L.map (·.2) → Q (.there none) s)
    (no : ∀ n, k ∉ L.map (·.2) → (pr t (kh P w k) n).j ∉ t.place.toList → (∀ c, c < n → (pr t (kh P w k) c).j ∈ t.place.toList) → Q (.free (pr t (kh P w k) n).j false) s) : wpAny (model P w) A (setSearch a (.ref x) (kh P w k) true) Q E s := by
  have room := R.room
  obtain ⟨n, hn, fr, bs⟩ := R.tab.first (by rw [List.length_map]; omega) (kh P w k)
  have lt : n < 100000 := by
    have le : 10 * SetTable.turns t.mask ≤ 1420 := by unfold SetTable.turns; rcases R.tab.mok with e | e | e <;> omega
    omega
  unfold setSearch
  refine srch R hx hu hn fr bs yes (fun z => no n z fr bs) 100000 0 none rfl (Nat.zero_le _) (by omega) fun i m hm hk => ?_
  have il : i < t.place.toList.length := by rw [Array.length_toList, R.place]; exact (List.getElem?_eq_some_iff.mp hm).1
  have hj := List.getElem?_eq_getElem il
  obtain ⟨c, hc, e⟩ := R.tab.before fr (show (hshs P w L)[i]? = some (kh P w k) by rw [List.getElem?_map, hm, ← hk]; rfl) hj
  exact ⟨c, Nat.zero_le _, hc, hj.trans (congrArg some e.symm)⟩
theorem isP_same {h h' : Heap} {k : TKey} {b : Addr} {o : Obj} (hb : IsP P w h k b) (ho : h.get? a = some o) (hd : o.data = .set es ep t) (sb : Heap.SameBut a h h') : IsP P w h' k b := by
  obtain ⟨o', items, n, ho', hc, hd', its⟩ := hb
  refine ⟨o', items, n, (sb.2 b fun z => ?_).trans ho', hc, hd', its⟩
  rw [z, ho] at ho'
  cases ho'
  rw [hd] at hd'
  cases hd'
theorem range_pick {α : Type} : ∀ l : List α, (List.range l.length).filterMap (fun i => l[i]?) = l
  | [] => rfl
  | x :: l => by
    rw [List.length_cons, List.range_succ_eq_map, List.filterMap_cons_some (f := fun i => (x :: l)[i]?) (b := x) rfl, List.filterMap_map]
    exact congrArg (x :: ·) (range_pick l)
theorem ents_order {order : Array Nat} (row : es.toList = ents P w L) (hp : order.toList.Perm (List.range L.length)) :
    ∃ L2, (order.filterMap (es[·]?)).toList = ents P w L2 ∧ L2.Perm L ∧ hshs P w L2 = order.toList.map fun i => (es.map (·.1)).getD i 0 := by
  have at' : ∀ i : Nat, es[i]? = (L[i]?).map fun m => (kh P w m.2, Value.ref m.1) := fun i => by rw [← Array.getElem?_toList, row, List.getElem?_map]
  refine ⟨order.toList.filterMap fun i => L[i]?, ?_, ?_, ?_⟩
  · have e1 : (order.filterMap (es[·]?)).toList = order.toList.filterMap fun i => es[i]? := by first | rw [Array.toList_filterMap] | simp
    rw [e1]
    show _ = List.map _ _
    rw [List.map_filterMap]
    exact congrArg (List.filterMap · order.toList) (funext at')
  · have z := hp.filterMap fun i => L[i]?
    rw [range_pick] at z
    exact z
  · show List.map _ _ = _
    rw [List.map_filterMap]
    have each : ∀ i ∈ order.toList, (L[i]?).map (fun m => kh P w m.2) = some ((es.map (·.1)).getD i 0) := fun i hi => by
      have il : i < L.length := List.mem_range.mp (hp.mem_iff.mp hi)
      have e5 : (es.map (·.1))[i]? = some (kh P w (L[i]).2) := by rw [Array.getElem?_map, at' i, List.getElem?_eq_getElem il]; rfl
      rw [List.getElem?_eq_getElem il, Array.getD_eq_getD_getElem?, e5]
      rfl
    generalize order.toList = l at each
    induction l with
    | nil => rfl
    | cons i l ih =>
      rw [List.filterMap_cons_some (f := fun (x : Nat) => Option.map (fun (m : Addr × TKey) => kh P w m.2) L[x]?) (each i List.mem_cons_self), List.map_cons, ih fun j hj => each j (List.mem_cons_of_mem _ hj)]
/-- the table laid anew -/
theorem relay {o : Obj} (ho : s.heap.get? a = some o) (hex : o.ExactSet) (hd : o.data = .set es ep t) (row : es.toList = ents P w L) (pl : t.place.size = es.size) (dm : t.dummies = #[]) (le : es.size ≤ t.mask) (one : (L.map (·.2)).Nodup)
    (key : ∀ m ∈ L, IsP P w s.heap m.2 m.1) (led : w.params.followText "set-order" = true ∨ t.led = true) (few : L.length < 64) {wanted M : Nat} (hw : SetTable.sizeAbove wanted - 1 = M) (hM : MaskOk M) (h128 : SetTable.sizeAbove wanted ≤ 128) (hn : L.length * 5 < M * 3)
    {Q : Unit → Shared → Prop} (hQ : ∀ h' L' es' ep' t', Heap.SameBut a s.heap h' → PSet P w h' a L' es' ep' t' → L'.Perm L → Q () { s with heap := h' }) : wpAny (model P w) A (setRelay a wanted) Q E s := by
  have size := ents_size row
  obtain ⟨t', order, e, hp, T, em, el, _, ed⟩ := relaid_ok t (hs := es.map (·.1)) (wanted := wanted) hw hM (by rw [Array.size_map, size]; omega)
  rw [Array.size_map, size] at hp
  obtain ⟨L2, r1, r2, r3⟩ := ents_order row hp
  rw [← r3] at T
  have size2 : (order.filterMap (es[·]?)).size = es.size := by rw [ents_size r1, r2.length_eq, size]
  rw [setRelay_eq]
  refine wpAny_bind (wpAny_setState_of ho hd (fits_of pl dm le) (wp_if_neg (by rw [sizeLine_eq]; omega) ?_))
  try refine wpAny_bind (wpAny_pure ?_)
  rw [e]
  refine wpAny_bind (wp_if_neg (by rw [size2]; simp) ?_)
  try refine wpAny_bind (wpAny_pure ?_)
  refine wpAny_pure (wpAny_storeSet_of ho hd ?_ (by rw [size2, size, sizeLine_eq]; omega))
  have sb : Heap.SameBut a s.heap (s.heap.update a (Obj.putSet (order.filterMap (es[·]?)) t')) := Heap.SameBut.update ..
  exact hQ _ L2 (order.filterMap (es[·]?)) (ep + 1) t' sb ⟨⟨_, store_at ho hd, ⟨hex.1, hex.2.1, hex.2.2⟩, rfl⟩, r1, T, (r2.map (·.2)).nodup_iff.mpr one, fun m hm => isP_same (key m (r2.mem_iff.mp hm)) ho hd sb, by rw [el]; exact led, by rw [r2.length_eq, em]; exact hn, by rw [r2.length_eq]; exact few⟩ r2
theorem tab_plain {hs : List Int} (T : TabOk t hs) (b : Bool) : TabOk (if b = true then t else { t with plain := false }) hs := by
  cases b with
  | true => exact T
  | false => exact ⟨T.ris, T.dm, T.sz, T.mok, T.bd, T.reach⟩
/-- a member is added -/
theorem add (R : PSet P w s.heap a L es ep t) {x : Addr} {k : TKey} (hx : IsP P w s.heap k x) (hu : A.units < cLine) (few : L.length + 1 < 64) {Q : Bool → Shared → Prop}
    (hQ : ∀ b h' L' es' ep' t', Heap.SameBut a s.heap h' → PSet P w h' a L' es' ep' t' → (k ∈ L.map (·.2) → L' = L) → (k ∉ L.map (·.2) → L'.Perm ((x, k) :: L)) → Q b { s with heap := h' }) : wpAny (model P w) A (setAddHashed a (.ref x) (kh P w k)) Q E s := by
  obtain ⟨o, ho, hex, hd⟩ := R.obj
  have size := ents_size R.row
  have room := R.room
  unfold setAddHashed
  rw [show (100000 : Nat) = 99999 + 1 from rfl, setAddHashedIn_succ]
  refine wpAny_holding (wpAny_bind (wpAny_setState_of ho hd R.fits (wp_if_neg (by simp [byScan, Value.scannable]) ?_)))
  try refine wpAny_bind (wpAny_pure ?_)
  refine wpAny_bind (srch_at R hx hu (fun hm => wpAny_pure (hQ false s.heap L es ep t (Heap.SameBut.refl a s.heap) R (fun _ => rfl) fun z => absurd hm z)) fun n hm fr bs => ?_)
  refine wpAny_bind (wpAny_setState_of ho hd R.fits ?_); dsimp only
  obtain ⟨q1, q2, q3, q4, q5, q6, q7, q8, q9⟩ := R.tab.put fr bs
  have hs : way t.mask (kh P w k) n = (pr t (kh P w k) n).j := rfl
  rw [hs] at q1 q2 q3 q4 q5 q6 q7 q8 q9
  generalize (pr t (kh P w k) n).j = slot at q1 q2 q3 q4 q5 q6 q7 q8 q9 ⊢
  generalize ept : t.put slot = pt at q1 q3 q4 q5 q6 q7 q8 q9 ⊢
  obtain ⟨t1, p'⟩ := pt
  dsimp only at q1 q3 q4 q5 q6 q7 q8 q9 ⊢
  subst q1
  generalize SetTable.below t.place slot = p at q2 q3 ⊢
  have step : ∀ c : Bool, wpAny (model P w) A (do
      let t := if c = true then t1 else { t1 with plain := false }
      storeSet a (SetTable.insertAt es p (kh P w k, Value.ref x)) t
      if (!false && t.tooFull) = true then setRelay a (SetTable.grown (es.size + 1))
      return true) Q E s := fun c => by
    have T1 := tab_plain q3 c
    have m1 : (if c = true then t1 else { t1 with plain := false }).mask = t1.mask := by cases c <;> rfl
    have l1 : (if c = true then t1 else { t1 with plain := false }).led = t1.led := by cases c <;> rfl
    have f1 : (if c = true then t1 else { t1 with plain := false }).tooFull = t1.tooFull := by cases c <;> rfl
    generalize (if c = true then t1 else { t1 with plain := false }) = t2 at T1 m1 l1 f1 ⊢
    dsimp only
    have pm := put_perm L p (x, k)
    have hen : (SetTable.insertAt es p (kh P w k, Value.ref x)).toList = ents P w (L.take p ++ (x, k) :: L.drop p) := by
      rw [SetTable.toList_insertAt, R.row]
      show _ = List.map _ _
      rw [List.map_append, List.map_cons, List.map_take, List.map_drop]
    have hhs : hshs P w (L.take p ++ (x, k) :: L.drop p) = (hshs P w L).take p ++ kh P w k :: (hshs P w L).drop p := by
      show List.map _ _ = _
      rw [List.map_append, List.map_cons, List.map_take, List.map_drop]
    rw [← hhs] at T1
    have one1 : ((L.take p ++ (x, k) :: L.drop p).map (·.2)).Nodup := (pm.map (·.2)).nodup_iff.mpr (List.nodup_cons.mpr ⟨hm, R.one⟩)
    generalize SetTable.insertAt es p (kh P w k, Value.ref x) = es1 at hen ⊢
    generalize L.take p ++ (x, k) :: L.drop p = L1 at pm hen T1 one1
    have len1 : L1.length = L.length + 1 := pm.length_eq
    have size1 : es1.size = L.length + 1 := by rw [ents_size hen, len1]
    refine wpAny_bind (wpAny_storeSet_of ho hd ?_ (by rw [size1, sizeLine_eq]; omega))
    have sb : Heap.SameBut a s.heap (s.heap.update a (Obj.putSet es1 t2)) := Heap.SameBut.update ..
    have ho1 := store_at (es' := es1) (t' := t2) ho hd
    generalize s.heap.update a (Obj.putSet es1 t2) = h1 at sb ho1 ⊢
    have key1 : ∀ m ∈ L1, IsP P w h1 m.2 m.1 := fun m hm' => by
      rcases List.mem_cons.mp (pm.mem_iff.mp hm') with e | hm'
      · rw [e]; exact isP_same hx ho hd sb
      · exact isP_same (R.key m hm') ho hd sb
    have led1 : w.params.followText "set-order" = true ∨ t2.led = true := by rw [l1, q5]; exact R.led
    by_cases full : t2.tooFull = true
    · first
        | refine wpAny_bind (wp_if_pos (by simp [full]) ?_)
        | refine wp_if_pos (by simp [full]) (wpAny_bind ?_)
      have ge : (L.length + 1) * 5 ≥ t.mask * 3 := by
        rw [f1] at full
        unfold SetTable.tooFull at full
        rw [decide_eq_true_eq, q9, List.length_map, q4] at full
        exact full
      have pl2 : t2.place.size = es1.size := by rw [T1.sz, List.length_map, len1, size1]
      have two : (t.mask = 7 ∧ L.length = 4) ∨ (t.mask = 31 ∧ L.length = 18) := by
        rcases R.tab.mok with e | e | e
        · left; rw [e] at room ge; exact ⟨e, by omega⟩
        · right; rw [e] at room ge; exact ⟨e, by omega⟩
        · exfalso; rw [e] at ge; omega
      have go : ∀ M, SetTable.sizeAbove (SetTable.grown (L.length + 1)) - 1 = M → MaskOk M → SetTable.sizeAbove (SetTable.grown (L.length + 1)) ≤ 128 → (L.length + 1) * 5 < M * 3 →
          wpAny (model P w) A (setRelay a (SetTable.grown (es.size + 1))) (fun _ s' => wpAny (model P w) A (pure true) Q E s') E { s with heap := h1 } := fun M g1 g2 g3 g4 => by
        rw [size]
        refine relay (s := { s with heap := h1 }) ho1 ⟨hex.1, hex.2.1, hex.2.2⟩ rfl hen pl2 T1.dm (by rw [size1, m1, q4]; rcases two with ⟨e, e2⟩ | ⟨e, e2⟩ <;> omega) one1 key1 led1 (by rw [len1]; exact few) g1 g2 g3 (by rw [len1]; exact g4) ?_
        exact fun h2 L2 es2 ep2 t2 sb2 R2 pm2 => wpAny_pure (hQ true h2 L2 es2 ep2 t2 (sb.trans sb2) R2 (fun z => absurd z hm) fun _ => pm2.trans pm)
      rcases two with ⟨_, e2⟩ | ⟨_, e2⟩
      · exact go 31 (by rw [e2, size_20]) (.inr (.inl rfl)) (by rw [e2, size_20]; decide) (by omega)
      · exact go 127 (by rw [e2, size_76]) (.inr (.inr rfl)) (by rw [e2, size_76]; decide) (by omega)
    · have room1 : L1.length * 5 < t2.mask * 3 := by
        rw [f1] at full
        unfold SetTable.tooFull at full
        rw [decide_eq_true_eq, q9, List.length_map, q4] at full
        rw [len1, m1, q4]
        omega
      first
        | refine wp_if_neg (by simp [full]) ?_
        | refine wpAny_bind (wp_if_neg (by simp [full]) (wpAny_pure ?_))
      exact wpAny_pure (hQ true h1 L1 es1 (ep + 1) t2 sb ⟨⟨_, ho1, ⟨hex.1, hex.2.1, hex.2.2⟩, rfl⟩, hen, T1, one1, key1, led1, room1, by rw [len1]; exact few⟩ (fun z => absurd z hm) fun _ => pm)
  by_cases tp : t1.plain = true
  · first
      | exact wpAny_bind (wp_if_pos tp (hashed_tup hx step))
      | exact wp_if_pos tp (wpAny_bind (hashed_tup hx step))
  · first
      | exact wpAny_bind (wp_if_neg tp (wpAny_pure (step true)))
      | exact wp_if_neg tp (step true)
      | exact wp_if_neg tp (wpAny_bind (wpAny_pure (step true)))
end
/-! ### as tracked things -/
/-- the set at a by its members, in whatever order its table has them -/
def PS0 (P : Program) (w : World) (h : Heap) (a : Addr) (L : List (Addr × TKey)) : Prop :=
  ∃ (es : Array (Int × Value)) (ep : Nat) (t : SetTable) (L' : List (Addr × TKey)), L'.Perm L ∧ (∃ o, h.get? a = some o ∧ o.ExactSet ∧ o.data = .set es ep t) ∧ es.toList = ents P w L' ∧ TabOk t (hshs P w L') ∧ (L'.map (·.2)).Nodup ∧
    (w.params.followText "set-order" = true ∨ t.led = true) ∧ L'.length * 5 < t.mask * 3 ∧ L'.length < 64
def SetP (P : Program) (w : World) (a : Addr) (L : List (Addr × TKey)) : HO := .ext fun h => PS0 P w h a L
section
variable {P : Program} {w : World} {h h' : Heap} {a : Addr} {L L' : List (Addr × TKey)} {es : Array (Int × Value)} {ep : Nat} {t : SetTable}
theorem PSet.ps0 (R : PSet P w h a L' es ep t) (p : L'.Perm L) : PS0 P w h a L := ⟨es, ep, t, L', p, R.obj, R.row, R.tab, R.one, R.led, R.room, R.few⟩
theorem ps0_full (R : PS0 P w h a L) (key : ∀ m ∈ L, IsP P w h m.2 m.1) : ∃ L' es ep t, L'.Perm L ∧ PSet P w h a L' es ep t := by
  obtain ⟨es, ep, t, L', p, h1, h2, h3, h4, h5, h6, h7⟩ := R
  exact ⟨L', es, ep, t, p, h1, h2, h3, h4, fun m hm => key m (p.mem_iff.mp hm), h5, h6, h7⟩
theorem setP_new {H : Hp} (R : PS0 P w h a L) : ObjOk P w H h a (SetP P w a L) := by
  refine ⟨R, ?_, fun h1 h2 p k => ?_⟩
  · obtain ⟨_, _, _, _, _, ⟨o, ho, _⟩, _⟩ := R
    exact ⟨o, ho⟩
  · obtain ⟨es, ep, t, L', p, ⟨o, ho, r⟩, q⟩ := p
    exact ⟨es, ep, t, L', p, ⟨o, k o ho, r⟩, q⟩
theorem starts_P : Starts P w fun D => SetP P w D [] := fun H h D ho => setP_new ⟨#[], 0, .fresh 0 0 (!w.params.followText "set-order"), [], .nil, ⟨_, ho, ⟨rfl, rfl, rfl⟩, rfl⟩, rfl, ⟨List.Pairwise.nil, rfl, rfl, .inl rfl, fun x hx => (by cases hx), fun i h j hi => (by simp at hi)⟩, List.nodup_nil, by
  show _ ∨ (!w.params.followText "set-order") = true
  cases w.params.followText "set-order"
  · exact .inr rfl
  · exact .inl rfl, by show 0 * 5 < 7 * 3; decide, by show 0 < 64; decide⟩
theorem starts_K : Starts P w fun D => SetK P w D (fun _ => false) 0 := fun H h D ho => setK_new ⟨_, #[], 0, _, ho, ⟨rfl, rfl, rfl⟩, rfl, (fun e he => by simp at he), (fun k => by simp), (by decide), (by rfl), rfl⟩
end
theorem items_vals {P : Program} {w : World} : ∀ {k : TKey} {us : List Value}, Vals (k.map kV) us → ItemsAre (mixKind P w) k us
  | [], _, .nil => .nil
  | n :: k, _, .cons r t => .cons (kV_is r) (items_vals t)
section
variable {X : Cx} {pins : List (Addr × Obj)} {σ : L2.St} {H : Hp} {s : Shared}
theorem inv_isP {b : Addr} {k : TKey} (I : Inv X pins σ H s) (h : SqT X.K H b (k.map kV)) : IsP X.prog X.w s.heap k b := by
  obtain ⟨its, r, ⟨o, ho, hc, n, hd⟩, _⟩ := I.tuple h
  exact ⟨o, its.toArray, n, ho, hc, hd, by simpa using items_vals r⟩
/-- set.add of a tuple -/
def rSAddP (K : PySem.W.Frag) (P : Program) (w : World) : V → List V → Hp → VK → Prop := fun x xs H Q => ∃ (a p : Addr) (k : TKey) (L L2 : List (Addr × TKey)), x = .ref a ∧ xs = [.ref p] ∧ H a = some (SetP P w a L) ∧ SqT K H p (k.map kV) ∧ (∀ m ∈ L, SqT K H m.1 (m.2.map kV)) ∧ L.length + 1 < 64 ∧
  (k ∈ L.map (fun m => m.2) → L2 = L) ∧ (k ∉ L.map (fun m => m.2) → L2 = (p, k) :: L) ∧ Q .non (upd H a (SetP P w a L2))
theorem mt_saddP (hu : X.A.units + 64 < cLine) : MtR X "set.add" (rSAddP X.K X.prog X.w) := by
  intro pins s σ H x xs v us Q I rx rxs h
  obtain ⟨a, p, k, L, Ln, rfl, rfl, ha, hp, hL, few, l1, l2, q⟩ := h
  cases rx
  cases rxs with
  | cons ry rt =>
    cases rt
    cases ry
    obtain ⟨L', es, ep, t, pm, R⟩ := ps0_full (I.hok a _ ha).1 fun m hm => inv_isP I (hL m hm)
    have hx := inv_isP I hp
    obtain ⟨o, ho, hex, hd⟩ := R.obj
    have ty : s.TypeIs (.ref a) "set" := ⟨o, ho, hex.1⟩
    refine wpAny_call_entry F.slot_set_add ty F.entry_set_add ?_ (F.args_set_add_2 _ _)
    unfold Builtin.«set.add» Builtin.Frozenset.oneOther
    simp only [List.isEmpty_nil, bind_assoc]
    unfold Builtin.Frozenset.addrOf setAdd
    refine wpAny_bind (wpAny_pure ?_); try dsimp only
    refine wpAny_bind (wpAny_pure ?_); try dsimp only
    refine wpAny_bind (wpAny_holding (wpAny_bind (wpAny_pyHash_tuple (by rw [Around.in1_units]; omega) hx ?_)))
    have mem : k ∈ L'.map (·.2) ↔ k ∈ L.map (·.2) := (pm.map (·.2)).mem_iff
    refine add (s := { s with toks := s.toks + (k.length + 1) }) R hx (by rw [Around.in1_units]; omega) (by rw [pm.length_eq]; exact few) fun b h' L2 es2 ep2 t2 sb R2 y n => ?_
    show wpAny (model X.prog X.w) X.A.in1 (ret Value.none) _ _ _
    have he : ∃ u, h'.get? a = some u := by obtain ⟨o2, ho2, _⟩ := R2.obj; exact ⟨o2, ho2⟩
    refine wpAny_pure ⟨_, rfl, .non, _, I.write (e := a) (t' := s.toks + (k.length + 1)) (by rw [ha]; trivial) (.inl rfl) (fun b u hb hu => (sb.2 b hb).trans hu) he (setP_new (R2.ps0 ?_)), rfl, q⟩
    rcases Classical.em (k ∈ L.map (·.2)) with hm | hm
    · rw [l1 hm, y (mem.mpr hm)]
      exact pm
    · rw [l2 hm]
      exact (n fun z => hm (mem.mp z)).trans (pm.cons _)
/-- len of a set of keys; of a set of tuples -/
def rLenSK (P : Program) (w : World) : List V → Hp → VK → Prop := fun xs H Q => ∃ a S n, xs = [.ref a] ∧ H a = some (SetK P w a S n) ∧ Q (.int (n : Nat)) H
def rLenSP (P : Program) (w : World) : List V → Hp → VK → Prop := fun xs H Q => ∃ a L, xs = [.ref a] ∧ H a = some (SetP P w a L) ∧ Q (.int (L.length : Nat)) H
theorem call_lenSK : CallR X (.builtin "len") (rLenSK X.prog X.w) := by
  intro pins s σ H xs us Q I r h
  obtain ⟨a, S, n, rfl, ha, q⟩ := h
  obtain ⟨u, rfl, ru⟩ := vals1 r
  cases ru
  obtain ⟨o, es, ep, t, ho, hex, hd, _, _, hb, hf, hn⟩ := setK_get I ha
  have h63 : es.size < 2 ^ 63 := Nat.lt_of_lt_of_le hb (by decide)
  subst hn
  exact call_len_set ho hex hd hf (by omega) ⟨.int (es.size : Nat), H, (I.tok _).tok _, ⟨_, rfl⟩, q⟩
theorem call_lenSP : CallR X (.builtin "len") (rLenSP X.prog X.w) := by
  intro pins s σ H xs us Q I r h
  obtain ⟨a, L, rfl, ha, q⟩ := h
  obtain ⟨u, rfl, ru⟩ := vals1 r
  cases ru
  obtain ⟨es, ep, t, L', pm, ⟨o, ho, hex, hd⟩, row, tab, _, _, room, few⟩ := (I.hok a _ ha).1
  have size := ents_size row
  have pl : t.place.size = L'.length := by rw [tab.sz, List.length_map]
  have e : es.size = L.length := by rw [size, pm.length_eq]
  exact call_len_set ho hex hd (fits_of (by omega) tab.dm (by omega)) (by omega) ⟨.int (L.length : Nat), H, (I.tok _).tok _, ⟨_, by rw [e]⟩, q⟩
end
end Zk
set_option Elab.async false
set_option linter.all false
set_option maxRecDepth 100000
set_option maxHeartbeats 2000000
/-! What checking webs needs: pairs and lists turned about, all over elements that leave tables, the sets' turns. -/
namespace Zk
open PySem PySem.Spec PyProof.Rows L2 GxR
/-! ### (x, y)[::-1], xs[::-1] -/
section
variable {prog : Program} {w : World} {A : Around} {E : Value → Shared → Prop} {s : Shared}
theorem getItem_rev2 {t sl : Addr} {u v vl vu vs : Value} {Q : Value → Shared → Prop} (ht : IsTup s.heap t #[u, v]) (hs : s.heap.IsSliceOf sl vl vu vs) (pl : IsPart vl none) (pu : IsPart vu none) (ps : IsPart vs (some (-1)))
    (h : Q (.ref s.heap.objs.size) { s with heap := s.heap.push { cls := .type "tuple", data := .seq #[v, u] } }) : wpAny (model prog w) A (getItem (.ref t) (.ref sl)) Q E s := by
  obtain ⟨os, hos, hcs, hds⟩ := id hs
  have hTs : s.TypeIs (.ref sl) "slice" := ⟨os, hos, hcs⟩
  unfold getItem
  try with_reducible refine wpAny_holding ?_
  first | refine wpAny_bind (wpAny_pure ?_) | skip
  refine wpAny_bind (wpAny_sequenceKey ht.typeIs (by decide) (wpAny_bind (wpAny_callSpecial?_slot (name := Str.ofString "__getitem__") ht.typeIs PyProof.Rows.slot_tuple_getitem (wpAny_call_entry PyProof.Rows.slot_tuple_getitem ht.typeIs entry_tuple_getitem ?_ (args_tuple_getitem _ _)))))
  show wpAny (model prog w) _ (Builtin.Tuple.tupleItemsOf (.ref t) >>= _) _ E s
  refine wpAny_bind (tupleItemsOf_ ht (wpAny_bind (wpAny_typeOf hTs ?_)))
  rw [if_pos (by decide)]
  refine wpAny_bind ?_
  unfold Builtin.Slice.sliceApplied Builtin.Slice.sliceFields
  refine wpAny_bind (wpAny_bind (wpAny_field hos hds (x := vl) rfl (wpAny_bind (wpAny_field hos hds (x := vu) rfl (wpAny_bind (wpAny_field hos hds (x := vs) rfl (wpAny_pure ?_)))))))
  refine wpAny_bind (HT.slicePart_ ps ?_)
  show wpAny (model prog w) _ (if ((-1 : Int) == 0) = true then _ else _) _ E s
  rw [if_neg (by decide)]
  refine wpAny_bind (HT.slicePart_ pl (wpAny_bind (HT.slicePart_ pu (wpAny_bind (wpAny_pure (wpAny_pure ?_))))))
  have two : ¬ (((1 : Int) == 0 && (-1 : Int) == 1 && (2 : Nat) == 2) = true) := by decide
  have sz : sizeOk (.seq #[v, u]) := by
    show (2 : Nat) ≤ sizeLine
    rw [sizeLine_eq]
    omega
  show wpAny (model prog w) _ (if ((1 : Int) == 0 && (-1 : Int) == 1 && (2 : Nat) == 2) = true then _ else _) _ E s
  rw [if_neg two]
  have e : ((List.range 2).filterMap (fun (k : Nat) => (#[u, v] : Array Value)[((1 : Int) + (k : Int) * (-1)).toNat]?)).toArray = #[v, u] := by
    have r2 : List.range 2 = [0, 1] := by decide
    have a0 : ((1 : Int) + ((0 : Nat) : Int) * (-1)).toNat = 1 := by decide
    have a1 : ((1 : Int) + ((1 : Nat) : Int) * (-1)).toNat = 0 := by decide
    rw [r2, List.filterMap_cons, a0, List.filterMap_cons, a1]
    rfl
  have np : Builtin.Slice.slicePlaces 1 (-1) (-1) = 2 := by decide
  show wpAny (model prog w) _ (Builtin.Tuple.tupleExact ((List.range (Builtin.Slice.slicePlaces 1 (-1) (-1))).filterMap (fun (k : Nat) => (#[u, v] : Array Value)[((1 : Int) + (k : Int) * (-1)).toNat]?)).toArray >>= _) _ E s
  rw [np, e]
  first
    | exact wpAny_bind (m := Builtin.Tuple.tupleExact _) (wpAny_newObj_type (wpAny_pure ⟨_, rfl, wpAny_pure h⟩) sz)
    | exact wpAny_bind (m := Builtin.Tuple.tupleExact _) (wpAny_newObj_type (wpAny_bind (wpAny_pure (wpAny_pure ⟨_, rfl, wpAny_pure h⟩))) sz)
    | exact wpAny_bind (wpAny_bind (m := Builtin.Tuple.tupleExact _) (wpAny_newObj_type (wpAny_pure (wpAny_pure ⟨_, rfl, wpAny_pure h⟩)) sz))
    | exact wpAny_bind (wpAny_bind (m := Builtin.Tuple.tupleExact _) (wpAny_newObj_type (wpAny_pure ⟨_, rfl, wpAny_pure h⟩) sz))
end
def tRev2 (K : PySem.W.Frag) (te : TE) : TE := fun σ H Q => te σ H fun v H1 => ∃ a x y, v = .ref a ∧ SqT K H1 a [x, y] ∧ ∀ p, H1 p = none → Q (.ref p) (upd H1 p (.tup [y, x]))
section
variable {X : Cx}
theorem pe_revLE (K : PySem.W.Frag) {e : Expr} {te : TE} {k : Nat} {p1 p2 p3 pos : Pos} (he : PE X e te) (eK : X.K = K := by rfl) : PE X (.Subscript e (.Slice none none (some (.UnaryOp .USub (.Constant (.int 1) k p1) p2)) p3) pos) (tRevL K te) := by rw [← eK]; exact pe_revL he
theorem pe_rev2E (K : PySem.W.Frag) {e : Expr} {te : TE} {k : Nat} {p1 p2 p3 pos : Pos} (he : PE X e te) (eK : X.K = K := by rfl) : PE X (.Subscript e (.Slice none none (some (.UnaryOp .USub (.Constant (.int 1) k p1) p2)) p3) pos) (tRev2 K te) := by
  rw [← eK]
  refine ⟨fun pins s σ H Q I h => Subscript_ (thn (he.run pins s σ H _ I h) fun v s1 ⟨v0, H1, I1, r1, a, x, y, e0, hx, q⟩ => ?_)⟩
  subst e0
  cases r1
  have back : PO X (some (.UnaryOp .USub (.Constant (.int 1) k p1) p2)) (tPart (tUn (rU fun i => .int (-i)) (tC (.int 1)))) := po_some (pe_un un_neg pe_int)
  refine wpAny_Slice (thn (po_none.run pins s1 σ H1 (fun o H2 => H2 = H1 ∧ o = none) I1 ⟨rfl, rfl⟩) fun vl s2 ⟨_, H2, I2, pl, e2, el⟩ => ?_)
  subst el e2
  refine thn (po_none.run pins s2 σ H2 (fun o H3 => H3 = H2 ∧ o = none) I2 ⟨rfl, rfl⟩) fun vu s3 ⟨_, H3, I3, pu, e3, eu⟩ => ?_
  subst eu e3
  refine thn (back.run pins s3 σ H3 (fun o H4 => H4 = H3 ∧ o = some (-1)) I3 ⟨1, rfl, -1, rfl, rfl, rfl⟩) fun vs s4 ⟨_, H4, I4, ps, e4, eo⟩ => ?_
  subst eo e4
  generalize es5 : ({ s4 with heap := s4.heap.push { cls := .type "slice", data := .fields #[vl, vu, vs] } } : Shared) = s5
  have I5 : Inv X pins σ H4 s5 := by rw [← es5]; exact I4.kept (t' := s4.toks) fun b ob q => Heap.get?_push_of_some _ q
  have hsl : s5.heap.IsSliceOf s4.heap.objs.size vl vu vs := by rw [← es5]; exact Heap.IsSliceOf.new _ vl vu vs
  obtain ⟨its, r, ht, hz⟩ := I5.tuple hx
  obtain ⟨u1, u2, rfl, ru1, ru2⟩ := vals2 r
  show wpAny (model X.prog X.w) X.A (subscriptTail e (.Slice none none (some (.UnaryOp .USub (.Constant (.int 1) k p1) p2)) p3) (.ref a) (.ref s4.heap.objs.size)) (EP X pins σ Q) X.xe s5
  refine tail_any (ops := [.ref a, .ref s4.heap.objs.size]) ht.typeIs (PyProof.Rows.slot_tuple_getitem.lookup) ?_ (by with_unfolding_all rfl)
  refine getItem_rev2 ht hsl pl pu ps ⟨.ref _, _, I5.laid (t' := s5.toks) (o := .tup [y, x]) (fun b ob q => Heap.get?_push_of_some _ q) (Nat.le_refl _) ?_, rfl, q _ (I5.hok.fresh (Nat.le_refl _))⟩
  exact ⟨Nat.le_of_lt (small1000 (by simp)), [u2, u1], .cons ru2 (.cons ru1 .nil), _, Heap.get?_push_size _ rfl, rfl, 0, rfl⟩
end
section
variable {σ : L2.St} {H : Hp} {Q : VK} {te : TE} {K : PySem.W.Frag}
theorem z_revL (q : te σ H fun x H1 => ∃ a xs, x = .ref a ∧ SqL K H1 a xs ∧ ∀ p, H1 p = none → Q (.ref p) (upd H1 p (.lst xs.reverse))) : tRevL K te σ H Q := q
theorem z_rev2 (q : te σ H fun v H1 => ∃ a x y, v = .ref a ∧ SqT K H1 a [x, y] ∧ ∀ p, H1 p = none → Q (.ref p) (upd H1 p (.tup [y, x]))) : tRev2 K te σ H Q := q
theorem z_minS {x y : Str} (q : Q (.str (if sLt y x = true then y else x)) H) : rMinS [.str x, .str y] H Q := ⟨x, y, rfl, q⟩
theorem z_maxS {x y : Str} (q : Q (.str (if sLt x y = true then y else x)) H) : rMaxS [.str x, .str y] H Q := ⟨x, y, rfl, q⟩
theorem z_isNn (q : Q (.bl true) H) : rIsN .non .non H Q := ⟨rfl, q⟩
theorem z_notNn (q : Q (.bl false) H) : rNotN .non .non H Q := ⟨rfl, q⟩
end
/-! ### tables together -/
def TGs (H : Hp) (Ps : List Addr) : Prop := ∀ P ∈ Ps, TabG H P
theorem TGs.same {H H' : Hp} {Ps : List Addr} (h : TGs H Ps) (e : Same H H') : TGs H' Ps := fun P hP => tg_same (h P hP) e
theorem TGs.tab {H H' : Hp} {Ps : List Addr} {P : Addr} (h : TGs H Ps) (e : Tabbed P H H') : TGs H' Ps := fun P hP => tg_tab (h P hP) e
theorem TGs.dr {H H' : Hp} {Ps : List Addr} {s : Addr} (h : TGs H Ps) (e : Dr s H H') : TGs H' Ps := fun P hP => tg_dr (h P hP) e
/-- what a check leaves: all but tables, and the tables in their form -/
structure Kc (Ps : List Addr) (H H' : Hp) : Prop where
  kp : Kp H H'
  tg : TGs H' Ps
theorem Kc.refl {Ps : List Addr} {H : Hp} (h : TGs H Ps) : Kc Ps H H := ⟨Kp.refl H, h⟩
theorem Kc.trans {Ps : List Addr} {H H1 H2 : Hp} (a : Kc Ps H H1) (b : Kc Ps H1 H2) : Kc Ps H H2 := ⟨a.kp.trans b.kp, b.tg⟩
theorem Kc.of_same {Ps : List Addr} {H H1 : Hp} (h : TGs H Ps) (e : Same H H1) : Kc Ps H H1 := ⟨Kp.of_same e, h.same e⟩
theorem Kc.of_tab {Ps : List Addr} {P : Addr} {H H1 : Hp} (h : TGs H Ps) (hP : P ∈ Ps) (e : Tabbed P H H1) : Kc Ps H H1 := ⟨Kp.of_tab e (h P hP), h.tab e⟩
/-- all over elements that leave so much -/
theorem all_kc {Ps : List Addr} {J : It} {g : TG} {te : TE} {vs : List Nat} {σw : L2.St} {H2 : Hp} {Qt Qf : Hp → Prop} (n : Nat) (pr : Nat → Bool) (h2 : TGs H2 Ps) (hgo : ∀ i H, i < n → Kc Ps H2 H → J.go i H) (hstop : ∀ H, Kc Ps H2 H → J.stop n H)
    (hs : ∀ i x H H', i < n → Kc Ps H2 H → J.yld i H x H' → ∀ (Q' : VK) (B : Hp → Prop), (∀ H3, Kc Ps H H3 → Q' (.bl (pr i)) H3) → g x σw H' fun σ2 H3 => wipe σ2 vs = σw ∧ tYes σ2 H3 fun b H4 => if b = true then te σ2 H4 Q' else B H4)
    (hT : (∀ i, i < n → pr i = true) → ∀ H, Kc Ps H2 H → Qt H) (hF : ∀ i, i < n → pr i = false → ∀ H, Kc Ps H2 H → Qf H) : ∃ W : Nat → Nat → Hp → Prop, (∃ m, W 0 m H2) ∧ AllTurns J g tYes te vs σw W Qt Qf := by
  refine ⟨fun i m H => m = n - i ∧ i ≤ n ∧ Kc Ps H2 H ∧ ∀ j, j < i → pr j = true, ⟨n, rfl, Nat.zero_le _, Kc.refl h2, fun j h => absurd h (Nat.not_lt_zero _)⟩, ?_⟩
  rintro i m H ⟨rfl, hi, hk, hp⟩
  by_cases h : i < n
  · refine .inr ⟨hgo i H h hk, fun H' => Kc Ps H2 H' ∧ pr i = true, fun H' hN => ⟨n - (i + 1), by omega, rfl, h, hN.1, fun j hj => ?_⟩, fun x H' hy => hs i x H H' h hk hy _ _ fun H3 k3 => ⟨pr i, rfl, ?_⟩⟩
    · rcases (show j < i ∨ j = i by omega) with z | z
      · exact hp j z
      · rw [z]; exact hN.2
    · cases hb : pr i with
      | true => exact ⟨hk.trans k3, rfl⟩
      | false => exact hF i h hb H3 (hk.trans k3)
  · have e : i = n := by omega
    subst e
    exact .inl ⟨hstop H hk, hT hp H hk⟩
/-! ### the turns of a set's comprehension over a list -/
theorem sc_list {SO : Addr → HO} {r : V → List V → Hp → VK → Prop} {K : PySem.W.Frag} {a : Addr} {xs : List V} {g : TG} {tt : TT} {te : TE} {vs : List Nat} {σ : L2.St} {H1 : Hp} {D : Addr} {Qd : Hp → Prop} (Pv : Nat → Hp → Prop) (h0 : Pv 0 (upd H1 D (SO D))) (hl : ∀ i H, i ≤ xs.length → Pv i H → SqL K H a xs)
    (hs : ∀ i x H, xs[i]? = some x → Pv i H → g x (wipe σ vs) H fun σ2 H2 => wipe σ2 vs = wipe σ vs ∧ tt σ2 H2 fun b H3 => if b = true then te σ2 H3 fun y H4 => r (.ref D) [y] H4 (fun _ H5 => Pv (i + 1) H5) else Pv (i + 1) H3) (hd : ∀ H, Pv xs.length H → Qd H) :
    ∃ W : Nat → Nat → Hp → Prop, (∃ m, W 0 m (upd H1 D (SO D))) ∧ ∀ i m H, W i m H → ((Itl K a).stop i H ∧ Qd H) ∨ ((Itl K a).go i H ∧ ∃ Nx : Hp → Prop, (∀ H', Nx H' → ∃ m', m' < m ∧ W (i + 1) m' H') ∧ ∀ x H', (Itl K a).yld i H x H' → g x (wipe σ vs) H' fun σ2 H2 => wipe σ2 vs = wipe σ vs ∧ tt σ2 H2 fun b H3 =>
      if b = true then te σ2 H3 fun y H4 => r (.ref D) [y] H4 (fun _ H5 => Nx H5) else Nx H3) := by
  refine ⟨fun i m H => i ≤ xs.length ∧ m = xs.length - i ∧ Pv i H, ⟨xs.length, Nat.zero_le _, by simp, h0⟩, ?_⟩
  rintro i m H ⟨hi, rfl, p⟩
  have q := hl i H hi p
  by_cases lt : i < xs.length
  · refine .inr ⟨⟨xs, xs[i], q, by simp [lt]⟩, Pv (i + 1), fun H' p' => ⟨xs.length - (i + 1), by omega, lt, rfl, p'⟩, fun x H' y => ?_⟩
    obtain ⟨rfl, y⟩ := y
    exact hs i x _ (y xs q) p
  · have e : i = xs.length := by omega
    subst e
    exact .inl ⟨⟨xs, q, Nat.le_refl _⟩, hd H p⟩
section
variable {σ : L2.St} {H : Hp} {Q : VK}
theorem z_scG {SO : Addr → HO} {r : V → List V → Hp → VK → Prop} {wi : TI} {g : TG} {tt : TT} {te : TE} {vs : List Nat} (q : wi σ H fun J H1 => ∀ D, H1 D = none → ∃ W : Nat → Nat → Hp → Prop, (∃ m, W 0 m (upd H1 D (SO D))) ∧ ∀ i m H, W i m H →
  (J.stop i H ∧ Q (.ref D) H) ∨ (J.go i H ∧ ∃ Nx : Hp → Prop, (∀ H', Nx H' → ∃ m', m' < m ∧ W (i + 1) m' H') ∧ ∀ x H', J.yld i H x H' → g x (wipe σ vs) H' fun σ2 H2 => wipe σ2 vs = wipe σ vs ∧ tt σ2 H2 fun b H3 =>
    if b = true then te σ2 H3 fun y H4 => r (.ref D) [y] H4 (fun _ H5 => Nx H5) else Nx H3)) : tScG SO r wi g tt te vs σ H Q := q
theorem z_addK {P : Program} {w : World} {D : Addr} {k : Key} {S : Key → Bool} {n : Nat} (hD : H D = some (SetK P w D S n)) (hn : n < 100) (q : ∀ H' S' n', (∀ b o, b ≠ D → H b = some o → H' b = some o) → H' D = some (SetK P w D S' n') → (∀ j, S' j = (S j || decide (j = k))) → n' = (if S k = true then n else n + 1) → Q .non H') : rSAddK P w (.ref D) [kV k] H Q :=
  ⟨D, k, S, n, rfl, rfl, hD, Nat.lt_of_le_of_lt (show n + 1 ≤ 100 by omega) (by decide), q _ _ _ (fun b o nb hb => by rw [upd_ne nb]; exact hb) upd_same (fun _ => rfl) rfl⟩
theorem z_addP {K : PySem.W.Frag} {P : Program} {w : World} {D p : Addr} {k : TKey} {L : List (Addr × TKey)} (hD : H D = some (SetP P w D L)) (hp : SqT K H p (k.map kV)) (hL : ∀ m ∈ L, SqT K H m.1 (m.2.map kV)) (hn : L.length < 60)
    (q : ∀ H' L2, (∀ b o, b ≠ D → H b = some o → H' b = some o) → H' D = some (SetP P w D L2) → (k ∈ L.map (fun m => m.2) → L2 = L) → (k ∉ L.map (fun m => m.2) → L2 = (p, k) :: L) → Q .non H') : rSAddP K P w (.ref D) [.ref p] H Q := by
  rcases Classical.em (k ∈ L.map (fun m => m.2)) with h | h
  · exact ⟨D, p, k, L, L, rfl, rfl, hD, hp, hL, by omega, fun _ => rfl, fun z => absurd h z, q _ L (fun b o nb hb => by rw [upd_ne nb]; exact hb) upd_same (fun _ => rfl) fun z => absurd h z⟩
  · exact ⟨D, p, k, L, (p, k) :: L, rfl, rfl, hD, hp, hL, by omega, fun z => absurd z h, fun _ => rfl, q _ _ (fun b o nb hb => by rw [upd_ne nb]; exact hb) upd_same (fun z => absurd z h) fun _ => rfl⟩
end
end Zk
set_option Elab.async false
set_option linter.all false
set_option maxRecDepth 100000
set_option maxHeartbeats 3200000
/-! Sets of texts that are walked: set(list of texts), sorted of such a set. -/
namespace Zk
open PySem PySem.Spec PyProof.Rows L2
/-- an entry of a text -/
def TxE (w : World) (e : Int × Value) : Prop := ∃ k t, e.2 = Value.str k t ∧ e.1 = hashStr w k
def txK (e : Int × Value) : Str := match e.2 with | .str k _ => k | _ => Str.empty
/-- the set at a of the texts zs, each once; its table can be walked -/
def TxS (w : World) (h : Heap) (a : Addr) (zs : List Str) : Prop :=
  ∃ o es ep t, h.get? a = some o ∧ o.ExactSet ∧ o.data = .set es ep t ∧ (∀ e ∈ es.toList, TxE w e) ∧ (es.toList.map txK).Perm zs ∧ zs.Nodup ∧ es.size < scanBound ∧ t.fits es.size = true ∧ Ris t.place.toList ∧ (w.params.followText "set-order" = true ∨ t.led = true)
section
variable {P : Program} {w : World} {A : Around} {E : Value → Shared → Prop} {s : Shared} {a : Addr} {zs : List Str}
theorem TxS.at {h h' : Heap} (R : TxS w h a zs) (k : ∀ o, h.get? a = some o → h'.get? a = some o) : TxS w h' a zs := by
  obtain ⟨o, es, ep, t, ho, r⟩ := R
  exact ⟨o, es, ep, t, k o ho, r⟩
theorem tx_elems {l : List (Int × Value)} (g : ∀ e ∈ l, TxE w e) : ElemsOf (PySem.strKind P w) l := fun e he => by
  obtain ⟨k, t, h1, h2⟩ := g e he
  exact ⟨⟨k, by rw [h1]; exact strKind_is _ _ _ _, h2⟩, by rw [h1] <;> rfl⟩
theorem tx_is {e : Int × Value} (g : TxE w e) (k : Str) : (PySem.strKind P w).is k e.2 = true ↔ txK e = k := by
  obtain ⟨k0, t, h1, _⟩ := g
  unfold txK
  rw [h1]
  constructor
  · intro q
    exact (PySem.strKind P w).inj _ _ _ (strKind_is _ _ _ _) q
  · rintro rfl
    exact strKind_is _ _ _ _
theorem tx_put {h : Heap} {o : Obj} {es es' : Array (Int × Value)} {ep : Nat} {t t' : SetTable} (ho : h.get? a = some o) (hd : o.data = .set es ep t) : (h.update a (Obj.putSet es' t')).get? a = some { o with data := .set es' (ep + 1) t' } := store_at ho hd
/-- behind a new entry: the table laid larger where it is full -/
theorem tx_tail {g : Bool → Sem Unit} (hg : ∀ (b : Bool) (s₁ : Shared) (Q' : Unit → Shared → Prop), Q' () s₁ → wpAny (model P w) A (g b) Q' E s₁) {o : Obj} {es es1 : Array (Int × Value)} {ep : Nat} {t t2 : SetTable} (ho : s.heap.get? a = some o) (hex : o.ExactSet) (hd : o.data = .set es ep t)
    (g1 : ∀ e ∈ es1.toList, TxE w e) (p1 : (es1.toList.map txK).Perm zs) (nd : zs.Nodup) (b1 : es1.size < scanBound) (f2 : t2.fits es1.size = true) (r2 : Ris t2.place.toList) (l2 : w.params.followText "set-order" = true ∨ t2.led = true) {dm : Bool} {R : Option Bool → Shared → Prop}
    (hR : ∀ h', Heap.SameBut a s.heap h' → TxS w h' a zs → R (some true) { s with heap := h' }) :
    wpAny (model P w) A (do
        storeSet a es1 t2
        if (!dm && t2.tooFull) = true then do
            g (relayAll t2 es1 (SetTable.grown es1.size)).2.2
            storeSet a (relayAll t2 es1 (SetTable.grown es1.size)).1 (relayAll t2 es1 (SetTable.grown es1.size)).2.1
            pure (some true)
          else pure (some true)) R E s := by
  refine wpAny_bind (wpAny_storeSet_of ho hd ?_ (fits_of_scanBound b1))
  have o1 := tx_put (es' := es1) (t' := t2) ho hd
  have sb := Heap.SameBut.update s.heap a (Obj.putSet es1 t2)
  split
  · have pm := relayAll_perm t2 es1 (SetTable.grown es1.size)
    have f3 := relayAll_fits t2 es1 (SetTable.grown es1.size)
    have r3 := relayAll_ris t2 es1 (SetTable.grown es1.size)
    have l3 := relayAll_led t2 es1 (SetTable.grown es1.size)
    generalize relayAll t2 es1 (SetTable.grown es1.size) = Z at pm f3 r3 l3 ⊢
    obtain ⟨es2, t3, gv⟩ := Z
    dsimp only at pm f3 r3 l3 ⊢
    have sz : es2.size = es1.size := by rw [← Array.length_toList, pm.length_eq, Array.length_toList]
    refine wpAny_bind (hg _ _ _ (wpAny_bind (wpAny_storeSet_of o1 rfl ?_ (fits_of_scanBound (by rw [sz]; exact b1)))))
    have o2 := tx_put (es' := es2) (t' := t3) o1 rfl
    exact wpAny_pure (hR _ (sb.trans (Heap.SameBut.update _ a _)) ⟨_, es2, _, t3, o2, hex, rfl, fun e he => g1 e (pm.mem_iff.mp he), (pm.map txK).trans p1, nd, by rw [sz]; exact b1, f3, r3, l2.imp id fun z => by rw [l3]; exact z⟩)
  · exact wpAny_pure (hR _ sb ⟨_, es1, _, t2, o1, hex, rfl, g1, p1, nd, b1, f2, r2, l2⟩)
theorem tx_add {k : Str} {u : Tok} {Q : Bool → Shared → Prop} (R : TxS w s.heap a zs) (room : zs.length + 1 < scanBound)
    (hQ : ∀ b h' zs', Heap.SameBut a s.heap h' → TxS w h' a zs' → (k ∈ zs → zs' = zs) → (k ∉ zs → zs' = k :: zs) → Q b { s with heap := h' }) : wpAny (model P w) A (setAddHashed a (.str k u) (hashStr w k)) Q E s := by
  obtain ⟨o, es, ep, t, ho, hex, hd, g, pz, nd, hb, hf, hr, hl⟩ := R
  have ik : (PySem.strKind P w).is k (.str k u) = true := strKind_is _ _ _ _
  have el : ElemsOf (PySem.strKind P w) es.toList := tx_elems g
  have len : es.size = zs.length := by rw [← pz.length_eq, List.length_map, Array.length_toList]
  have memz : ∀ i, i ∈ zs ↔ ∃ e ∈ es.toList, (PySem.strKind P w).is i e.2 = true := fun i => by
    rw [← pz.mem_iff, List.mem_map]
    exact ⟨fun ⟨e, he, q⟩ => ⟨e, he, (tx_is (g e he) i).2 q⟩, fun ⟨e, he, q⟩ => ⟨e, he, (tx_is (g e he) i).1 q⟩⟩
  unfold setAddHashed setAddHashedIn
  refine wpAny_holding (wpAny_bind (wpAny_setState_of ho hd hf ?_)); dsimp only
  rw [byScan_of (x := .str k u) rfl hb el]
  simp only [↓reduceIte]
  unfold setAddByScan
  refine wpAny_bind (wpAny_bind (wpAny_rule (wpAny_bind (wpAny_setScan_of (knd := PySem.strKind P w) (k := k) ik ho hd hf el ?_))))
  cases fi : List.findIdx? (fun e => (PySem.strKind P w).is k e.2) es.toList with
  | some j =>
    obtain ⟨hj, pj, _⟩ := List.findIdx?_eq_some_iff_getElem.mp fi
    have yes : k ∈ zs := (memz k).2 ⟨es.toList[j], List.getElem_mem hj, pj⟩
    exact wpAny_pure (wpAny_pure (hQ _ s.heap zs (Heap.SameBut.refl a s.heap) ⟨o, es, ep, t, ho, hex, hd, g, pz, nd, hb, hf, hr, hl⟩ (fun _ => rfl) fun z => absurd yes z))
  | none =>
    have no : k ∉ zs := fun z => by
      obtain ⟨e, he, q⟩ := (memz k).1 z
      have c := List.findIdx?_eq_none_iff.mp fi e he
      rw [q] at c
      cases c
    dsimp only
    have gw : ∀ (b : Bool) {s₁ : Shared} {Q' : Unit → Shared → Prop}, Q' () s₁ → wpAny (model P w) A (match b with | true => rule "set.scan.the-table-gave-way" | false => pure ()) Q' E s₁ := fun b s₁ Q' q => by cases b <;> first | exact wpAny_pure q | exact wpAny_rule q
    have pm := layNew_perm t es (hashStr w k) (.str k u)
    have f1 := layNew_fits t es (hashStr w k) (.str k u)
    have r1 := layNew_ris t es (hashStr w k) (.str k u) hr
    have l1 := layNew_led t es (hashStr w k) (.str k u)
    generalize layNew t es (hashStr w k) (.str k u) = Z at pm f1 r1 l1 ⊢
    obtain ⟨es1, t1, dm, gv⟩ := Z
    dsimp only at pm f1 r1 l1 ⊢
    rw [Array.toList_push] at pm
    have pc : es1.toList.Perm ((hashStr w k, Value.str k u) :: es.toList) := pm.trans (List.perm_append_singleton _ _)
    have g1 : ∀ e ∈ es1.toList, TxE w e := fun e he => by
      rcases List.mem_cons.mp (pc.mem_iff.mp he) with z | z
      · rw [z]; exact ⟨k, u, rfl, rfl⟩
      · exact g e z
    have p1 : (es1.toList.map txK).Perm (k :: zs) := (pc.map txK).trans (pz.cons k)
    have nd1 : (k :: zs).Nodup := List.nodup_cons.mpr ⟨no, nd⟩
    have b1 : es1.size < scanBound := by rw [← Array.length_toList, pc.length_eq, List.length_cons, Array.length_toList, len]; exact room
    have led1 : w.params.followText "set-order" = true ∨ t1.led = true := hl.imp id fun z => by rw [l1]; exact z
    have fin : ∀ h', Heap.SameBut a s.heap h' → TxS w h' a (k :: zs) → Q true { s with heap := h' } := fun h' sb r => hQ true h' _ sb r (fun z => absurd z no) fun _ => rfl
    refine wpAny_bind (gw _ ?_)
    split
    · refine wpAny_bind ?_
      rw [hashByValue_scannable 8 (x := .str k u) rfl]
      refine wpAny_pure ?_
      refine tx_tail ?_ ho hex hd g1 p1 nd1 b1 ?_ ?_ ?_ ?_
      · intro b s₁ Q' q; cases b <;> first | exact wpAny_pure q | exact wpAny_rule q
      · first | (split <;> first | exact f1 | exact SetTable.fits_plain_off f1) | exact f1
      · first | (split <;> exact r1) | exact r1
      · first | (split <;> exact led1) | exact led1
      · intro h' sb r; dsimp only; exact wpAny_pure (fin h' sb r)
    · refine wpAny_bind (wpAny_pure ?_)
      simp only [↓reduceIte]
      refine tx_tail ?_ ho hex hd g1 p1 nd1 b1 f1 r1 led1 ?_
      · intro b s₁ Q' q; cases b <;> first | exact wpAny_pure q | exact wpAny_rule q
      · intro h' sb r; dsimp only; exact wpAny_pure (fin h' sb r)
end
/-! ### set(list of texts) -/
section
variable {prog : Program} {w : World} {A : Around} {R : Result → Shared → Prop} {I : Addr} {fp wr : List Addr} {G : Array GenState → Array GenState → Prop} {n : Nat} {P : Nat → Value → Prop} {St : Nat → Shared → Prop}
theorem tx_loop (W : WalksS prog w A.in1 I fp wr G n P St) (S : Addr) (hSf : S ∉ fp) (xs : List Str) (hsz : xs.length = n) (hn : n < 1000) (hval : ∀ i v, P i v → ∃ t, v = .str (xs.getD i Str.empty) t) :
    ∀ (k i : Nat) (s : Shared) (zi : List Str), n - i = k → i ≤ n → St i s → TxS w s.heap S zi → (∀ z, z ∈ zi ↔ z ∈ xs.take i) → zi.length ≤ i →
      (∀ s' zn, Moved (S :: wr) G s s' → TxS w s'.heap S zn → (∀ z, z ∈ zn ↔ z ∈ xs) → zn.length ≤ n → R (.ok (.ret .none)) s') → codeAny (model prog w) A (.builtin "set.update.loop" ⟨[.ref S, .ref I], []⟩) R s := by
  have nSw : S ∉ wr := fun h => hSf (W.sub _ h)
  have sub : ∀ b ∈ wr, b ∈ S :: wr := fun b hb => List.mem_cons_of_mem _ hb
  intro k
  induction k with
  | zero =>
    intro i s zi hk hi st hz mz lz hR
    have e : i = n := by omega
    subst e
    refine codeAny_builtin PyProof.Rows.F.entry_set_update_loop ?_
    rw [Around.under_plainId PyProof.Rows.F.plain_set_update_loop _]
    show wpAny (model prog w) A.in1 (pyNext (.ref I) >>= _) _ _ s
    refine wpAny_bind (W.done s _ _ st fun s' hm => wpAny_pure (hR s' zi (hm.mono sub) (hz.at fun o => hm.heap S o nSw) (fun z => ?_) lz))
    rw [mz, List.take_of_length_le (by omega)]
  | succ k ih =>
    intro i s zi hk hi st hz mz lz hR
    have lt : i < n := by omega
    refine codeAny_builtin PyProof.Rows.F.entry_set_update_loop ?_
    rw [Around.under_plainId PyProof.Rows.F.plain_set_update_loop _]
    show wpAny (model prog w) A.in1 (pyNext (.ref I) >>= _) _ _ s
    refine wpAny_bind (W.item i s _ _ lt st fun v s' hP st' hm => ?_)
    obtain ⟨t, rfl⟩ := hval i v hP
    obtain ⟨x, hx⟩ : ∃ x, xs[i]? = some x := ⟨_, List.getElem?_eq_getElem (by omega)⟩
    have ex : xs.getD i Str.empty = x := by rw [List.getD_eq_getElem?_getD, hx] <;> rfl
    rw [ex]
    show wpAny (model prog w) A.in1 (holding [Value.str x t] (setAdd S (.str x t)) >>= _) _ _ s'
    unfold setAdd
    refine wpAny_bind (wpAny_holding (wpAny_holding (wpAny_bind ((PySem.strKind prog w).pyHash (k := x) (strKind_is _ _ _ _) ?_))))
    refine tx_add (s := { s' with toks := s'.toks + 1 }) (hz.at fun o => hm.heap S o nSw) (Nat.lt_of_le_of_lt (show zi.length + 1 ≤ 1000 by omega) (by decide)) fun b h' zs' sb hz' y no => ?_
    have tk : ∀ z, z ∈ xs.take (i + 1) ↔ z ∈ xs.take i ∨ z = x := fun z => by rw [List.take_add_one, hx]; simp
    have mz' : ∀ z, z ∈ zs' ↔ z ∈ xs.take (i + 1) := fun z => by
      rw [tk, ← mz]
      rcases Classical.em (x ∈ zi) with h | h
      · rw [y h]
        exact ⟨.inl, fun q => q.elim id fun e => e ▸ h⟩
      · rw [no h, List.mem_cons]
        exact Or.comm
    have lz' : zs'.length ≤ i + 1 := by
      rcases Classical.em (x ∈ zi) with h | h
      · rw [y h]; omega
      · rw [no h, List.length_cons]; omega
    refine wpAny_pure ⟨plainId_quiet PyProof.Rows.F.plain_set_update_loop _, ih (i + 1) _ zs' (by omega) lt (W.frame _ s' _ _ st' (Nat.le_succ _) fun b hb o e => ?_) hz' mz' lz' fun s'' zn hm'' hz'' m'' l'' => hR s'' zn (Moved.trans W.gtrans ((hm.mono sub).then_heap (Nat.le_succ _) fun b o hb e => ?_) hm'') hz'' m'' l''⟩
    · rw [sb.2 b (fun h : b = S => hSf (by rw [← h]; exact hb))]; exact e
    · rw [sb.2 b (fun h : b = S => hb (by rw [h]; exact List.mem_cons_self))]; exact e
end
section
variable {prog : Program} {w : World} {A : Around} {E : Value → Shared → Prop} {s : Shared}
abbrev nso (led : Bool) : Obj := { cls := .type "set", dict := none, data := .set #[] 0 (.fresh 0 0 led) }
theorem tx_fresh {h : Heap} {a : Addr} (ho : h.get? a = some (newSetObj w)) : TxS w h a [] :=
  ⟨_, #[], 0, _, ho, ⟨rfl, rfl, rfl⟩, rfl, (fun e he => by simp at he), .nil, List.nodup_nil, (by decide), (by rfl), List.Pairwise.nil, by
    show _ ∨ (!w.params.followText "set-order") = true
    cases w.params.followText "set-order"
    · exact .inr rfl
    · exact .inl rfl⟩
/-- set(xs) of a list of texts -/
theorem call_setTx {l : Addr} {items : Array Value} {xs : List Str} {Q : Value → Shared → Prop} (hh : A.handled = none) (hl : s.heap.IsList l items) (hi : PyProof.Rows.StrsAre items.toList xs) (hn : xs.length < 1000)
    (h : ∀ (h' : Heap) (tk : Nat) (zs : List Str), TxS w h' s.heap.objs.size zs → (∀ z, z ∈ zs ↔ z ∈ xs) → zs.length ≤ xs.length → (∀ b o, s.heap.get? b = some o → h'.get? b = some o) → Q (.ref s.heap.objs.size) { s with heap := h', toks := tk }) :
    wpAny (model prog w) A (call (.type "set") [.ref l]) Q E s := by
  have size : xs.length = items.size := by rw [← StrsAre.len_eq hi, Array.length_toList]
  obtain ⟨cc, tl, mro⟩ := PySem.F.called_set.mro
  have made := PySem.F.called_set.made
  have sub0 := PySem.F.called_set.sub
  refine wpAny_call (codeAny_of_tree ?_)
  show wpAny (model prog w) _ (callAny (.type "set") _) _ E _
  refine wpAny_pure ⟨Code.quiet_builtin _ (by decide +kernel), codeAny_builtin PySem.F.entry_type_call ?_⟩
  rw [Around.under_plain (weight_type_call_type "set" [.ref l] []) rfl]
  have nt := PySem.F.called_set.notType
  have cre := PySem.F.called_set.canCreate
  have tc := PySem.F.typeCall_set_1 (.ref l)
  repeat (any_goals (first | assumption | wp_step))
  refine codeAny_mono (code_set_led1 (.ref l) (E := E) (Q₁ := fun obj s₁ => obj = .ref s.heap.objs.size ∧ s₁ = { s with heap := s.heap.push (newSetObj w) }) ⟨rfl, rfl⟩) fun r s₁ hr => ?_
  cases r with
  | error e => exact hr
  | ok fl =>
    cases fl with
    | ret obj =>
      obtain ⟨rfl, rfl⟩ := hr
      have hS : (s.heap.push (newSetObj w)).get? s.heap.objs.size = some (newSetObj w) := Heap.get?_push_size _ rfl
      have hT : Shared.TypeIs { s with heap := s.heap.push (newSetObj w) } (.ref s.heap.objs.size) "set" := ⟨_, hS, rfl⟩
      have li := PySem.F.called_set.init.lookup
      have bi := PySem.F.called_set.init.bind (.ref s.heap.objs.size)
      repeat (any_goals (first | assumption | wp_step))
      refine codeAny_mono (codeAny_call_builtin (R := wants (fun r s₂ => r = .none ∧ ∃ h' tk zs, s₂ = { s with heap := h', toks := tk } ∧ TxS w h' s.heap.objs.size zs ∧ (∀ z, z ∈ zs ↔ z ∈ xs) ∧ zs.length ≤ xs.length ∧ (∀ b o, s.heap.get? b = some o → h'.get? b = some o)) E) PySem.F.called_set.init.plain PySem.F.entry_set_init (check_set_init_1 hT ?_)) fun r₂ s₂ hr₂ => ?_
      · obtain ⟨ol, hol, hcl, nl, hdl⟩ := hl
        obtain ⟨ocls, odict, odata, oslots⟩ := ol
        simp only at hcl hdl
        subst hcl; subst hdl
        have hol' : (s.heap.push (newSetObj w)).get? l = some { cls := .type "list", dict := odict, data := .seq items nl, slots := oslots } := Heap.get?_push_of_some _ hol
        have q1 := PySem.F.sub_list_set
        have q2 := PySem.F.sub_list_frozenset
        have q3 : (Value.type "list" == Value.type "dict") = false := by decide
        have l1 : (s.heap.push (newSetObj w)).IsList l items := ⟨_, hol', rfl, nl, rfl⟩
        have lS : l < s.heap.objs.size := Heap.lt_size hol
        have sz1 : (s.heap.push (newSetObj w)).objs.size = s.heap.objs.size + 1 := Heap.size_push ..
        unfold Builtin.«set.__init__» noKeywords Builtin.Frozenset.updateFrom
        generalize hPI : pyIter = PI
        wp_walk
        subst hPI
        refine wpAny_pyIter_list l1 (wpAny_bind (wpAny_runValue ?_))
        have h3 : A.in1.in1.in1.handled = none := by simp [hh]
        have ne1 : l ≠ (s.heap.push (newSetObj w)).objs.size := by rw [sz1]; exact Nat.ne_of_lt (Nat.lt_succ_of_lt lS)
        have nf : s.heap.objs.size ∉ [(s.heap.push (newSetObj w)).objs.size, l] := fun z => by
          rcases List.mem_cons.mp z with z | z
          · rw [sz1] at z
            exact Nat.ne_of_lt (Nat.lt_succ_self _) z
          · exact Nat.ne_of_gt lS (List.mem_singleton.mp z)
        have hS2 : ((s.heap.push (newSetObj w)).push { cls := .type "list_iterator", data := .fields #[.ref l, .int 0 0] }).get? s.heap.objs.size = some (newSetObj w) := Heap.get?_push_of_some _ hS
        refine tx_loop ((Walks.list h3 _ l ne1 items).toS) s.heap.objs.size nf xs size (by omega) (fun i v hv => SS.strs_at hi i v (by rw [Array.getElem?_toList]; exact hv)) (items.size - 0) 0 _ [] (by omega) (Nat.zero_le _) ⟨⟨_, Heap.get?_push_size _ rfl, rfl, rfl⟩, (l1.push _)⟩ (tx_fresh hS2) (fun z => by simp) (Nat.zero_le _) ?_
        intro s' zn hm hz mz lz
        obtain ⟨h', g', d', tk', os'⟩ := s'
        have eg : g' = s.gens := hm.gens
        have ed : d' = s.drawn := hm.drawn
        have eo : os' = s.os := hm.os
        subst eg; subst ed; subst eo
        refine wpAny_pure ?_
        show wpAny (model prog w) _ (ret Value.none) _ _ _
        refine wpAny_pure ⟨rfl, h', tk', zn, rfl, hz, mz, by omega, fun b o e => ?_⟩
        have lb := Heap.lt_size e
        refine hm.heap b o (fun z => ?_) (Heap.get?_push_of_some _ (Heap.get?_push_of_some _ e))
        rcases List.mem_cons.mp z with z | z
        · exact Nat.ne_of_lt lb z
        · rw [List.mem_singleton.mp z, sz1] at lb
          exact Nat.lt_irrefl _ (Nat.lt_of_succ_lt lb)
      · cases r₂ with
        | error e => exact hr₂
        | ok fl₂ =>
          cases fl₂ with
          | ret r =>
            obtain ⟨rfl, h', tk, zs, rfl, hz, mz, lz, hk'⟩ := hr₂
            repeat (any_goals (first | assumption | wp_step))
            exact h _ _ zs hz mz lz hk'
          | _ => exact hr₂.elim
    | _ => exact hr.elim
/-- sorted of a set of texts -/
theorem strs_of : ∀ (vs : List Value), (∀ v ∈ vs, ∃ k t, v = Value.str k t) → PyProof.Rows.StrsAre vs (vs.map fun v => txK (0, v))
  | [], _ => .nil
  | v :: vs, h => by
    obtain ⟨k, t, rfl⟩ := h v (by simp)
    exact .cons k t (strs_of vs fun u hu => h u (List.mem_cons_of_mem _ hu))
theorem sorted_tx {a : Addr} {zs : List Str} {Q : Value → Shared → Prop} (R : TxS w s.heap a zs) (hh : A.handled = none) (h64 : zs.length < 64)
    (hQ : ∀ s' p (out : Array Value) (c : Nat) (ys : List Str), (∀ b o, s.heap.get? b = some o → s'.heap.get? b = some o) → s'.gens = s.gens → s'.os = s.os → s.heap.objs.size ≤ p →
      s'.heap.get? p = some (seqObj "list" out c) → PyProof.Rows.StrsAre out.toList ys → ys.Perm zs → sortedS ys = true → Q (.ref p) s') : wpAny (model prog w) A (call (.builtin "sorted") [.ref a]) Q E s := by
  obtain ⟨o, es, ep, t, ho, hex, hd, g, pz, nd, hb, hf, hr, hl⟩ := R
  refine Calls.call_function_entry kind_sorted plain_sorted entry_sorted (args_sorted1 _) ?_
  unfold Builtin.«sorted»
  refine wpAny_bind (m := checkCount "sorted" 1 1 _) (wpAny_pure (wpAny_bind (collect_set (A := A.in1) hh ⟨o, ho, hex.1, hd⟩ hf hb hr hl fun s1 vs k1 hz g1 o1 pm => ?_)))
  have hS : PyProof.Rows.StrsAre vs (vs.map fun v => txK (0, v)) := strs_of vs fun v hv => by
    obtain ⟨e, he, q⟩ := List.mem_map.mp (pm.mem_iff.mp hv)
    obtain ⟨k, tk, h1, _⟩ := g e he
    exact ⟨k, tk, by rw [← q]; exact h1⟩
  have pk : (vs.map fun v => txK (0, v)).Perm zs := by
    have q := pm.map fun v => txK (0, v)
    rw [List.map_map] at q
    exact q.trans pz
  have len : vs.length = zs.length := by rw [← pk.length_eq, List.length_map]
  refine wpAny_bind (wpAny_newList ?_ (by rw [len, sizeLine_eq]; omega))
  have hoL : (s1.heap.push (seqObj "list" vs.toArray 0)).get? s1.heap.objs.size = some (seqObj "list" vs.toArray 0) := Heap.get?_push_size _ rfl
  refine wpAny_bind (wpAny_holding (wpAny_call_entry slot_list_sort ⟨_, hoL, rfl⟩ entry_list_sort (list_sort_treeK PyProof.Rows.strKind_oneLt hoL hS.keysOf (fun v₁ v₂ rest e => PyProof.Rows.keyKind_strs (by rw [← e]; exact hS)) (by rw [len]; exact h64) fun st' hp hs => ⟨_, rfl, ?_⟩) (args_list_sort _)))
  obtain ⟨ys, a1, a2, a3⟩ := PyProof.Rows.sorted_out_str hS hp hs
  obtain ⟨c, hc⟩ := sortedHeap_at (vs := vs) (out := (arrOf st').map (·.2)) hoL
  refine wpAny_pure ⟨_, rfl, hQ _ s1.heap.objs.size _ c ys (fun b u e => ?_) g1 o1 hz hc a1 (a2.trans pk) a3⟩
  have q := k1 b u e
  have lt := Heap.lt_size q
  show (sortedHeap (s1.heap.push (seqObj "list" vs.toArray 0)) s1.heap.objs.size vs _).get? b = some u
  rw [sortedHeap_old (Nat.ne_of_lt lt) (by rw [size_push']; exact Nat.lt_succ_of_lt lt)]
  exact Heap.get?_push_of_some _ q
end
/-! ### as tracked things -/
def SetTx (w : World) (a : Addr) (zs : List Str) : HO := .ext fun h => TxS w h a zs
theorem setTx_new {P : Program} {w : World} {H : Hp} {h : Heap} {a : Addr} {zs : List Str} (R : TxS w h a zs) : ObjOk P w H h a (SetTx w a zs) := by
  refine ⟨R, ?_, fun h1 h2 p k => p.at k⟩
  obtain ⟨o, _, _, _, ho, _⟩ := R
  exact ⟨o, ho⟩
def rSetTx (K : PySem.W.Frag) (w : World) : List V → Hp → VK → Prop := fun vs H Q => ∃ (l : Addr) (xs : List Str), vs = [.ref l] ∧ SqL K H l (xs.map V.str) ∧ xs.length < 1000 ∧ ∀ p zs, H p = none → (∀ z, z ∈ zs ↔ z ∈ xs) → zs.Nodup → zs.length ≤ xs.length → Q (.ref p) (upd H p (SetTx w p zs))
def rSortTx (w : World) : List V → Hp → VK → Prop := fun vs H Q => ∃ (a : Addr) (zs : List Str), vs = [.ref a] ∧ H a = some (SetTx w a zs) ∧ zs.length < 64 ∧ ∀ p ys, H p = none → ys.Perm zs → sortedS ys = true → Q (.ref p) (upd H p (.lst (ys.map V.str)))
section
variable {X : Cx}
theorem cr_setTx (hc : X.calm = true) : CallR X (.type "set") (rSetTx X.K X.w) := by
  intro pins s σ H xs us Q I r h
  obtain ⟨l, xs, rfl, hl, hn, q⟩ := h
  rw [Vals.ref1 r]
  obtain ⟨its, rv, pl, hz⟩ := I.list hl
  have nn : H s.heap.objs.size = none := I.hok.fresh (Nat.le_refl _)
  refine call_setTx (I.ok.hd hc) pl.isList (by simpa using strsAre_of rv) hn fun h' tk zs R m le k => ?_
  have nd : zs.Nodup := by obtain ⟨_, _, _, _, _, _, _, _, _, nd, _⟩ := R; exact nd
  exact ⟨.ref s.heap.objs.size, upd H s.heap.objs.size (SetTx X.w s.heap.objs.size zs), I.laid (t' := tk) k (Nat.le_refl _) (setTx_new R), rfl, q _ zs nn m nd le⟩
theorem cr_sortTx (hc : X.calm = true) : CallR X (.builtin "sorted") (rSortTx X.w) := by
  intro pins s σ H vs us Q I r h
  obtain ⟨a, zs, rfl, ha, h64, q⟩ := h
  rw [Vals.ref1 r]
  refine sorted_tx (I.hok a _ ha).1 (I.ok.hd hc) h64 fun s' p out c ys k g o hp hg hi pm hs => ?_
  have hlen : (ys.map V.str).length ≤ sizeLine := by rw [List.length_map, pm.length_eq, sizeLine_eq]; omega
  have hn : H p = none := I.hok.fresh hp
  have J : Inv X pins σ (upd H p (.lst (ys.map V.str))) { s with heap := s'.heap, gens := s'.gens, drawn := s'.drawn, toks := s'.toks } :=
    I.call (ch := []) (Un.laid k hp hn) (I.hok.laid k hp ⟨hlen, out.toList, c, vals_of_strs hi, hg⟩) (by rw [g]; exact I.bare) (fun _ z => nomatch z)
  have e : s' = { s with heap := s'.heap, gens := s'.gens, drawn := s'.drawn, toks := s'.toks } := by cases s'; cases s; cases o; rfl
  rw [e]
  exact ⟨.ref p, _, J, rfl, q p ys hn pm hs⟩
end
end Zk
set_option Elab.async false
set_option linter.all false
set_option maxRecDepth 100000
set_option maxHeartbeats 2000000
/-! A dict comprehension given to a name; steps of dicts. -/
namespace Zk
open PySem PySem.Spec PyProof.Rows L2
theorem swD_true {kx vx : Expr} {gs : List Comprehension} {scope : Scope} {pos py : Pos} {y : Str} {l : Nat} {env : Env} (hk : env.scope.kind = .function) (hy : env.scope.names.lookup y = some .local) (hl : (py.line == pos.line) = true)
    (ha : (scope.names.any fun (n, k) => n == y && (k == .local || k == .cell)) = false) : swapsWith (.DictComp kx vx gs scope pos) (some (.Name y py)) l env = pure true := by
  have k1 : env.kindOf y = some .local := hy
  have k2 : env.blockKind = .function := by unfold Env.blockKind; rw [hk]; rfl
  unfold swapsWith
  simp only [k2, k1, ha, Expr.pos, hl]
  rfl
section
variable {X : Cx}
theorem ps_setDc {i : Nat} {y : Str} {py : Pos} {kx vx tg iter : Expr} {ifs : List Expr} {scope : Scope} {own : List (Str × Nat)} {pos spos : Pos} {wi : TI} {g : TG} {tt : TT} {tk tv : TE} (hc : X.calm = true) (hN : X.N.Nodup) (hy : X.N[i]? = some y) (hyl : X.env.scope.names.lookup y = some .local)
    (hsw : swapsWith (.DictComp kx vx [⟨tg, iter, ifs, 0⟩] scope pos) (some (.Name y py)) spos.line X.env = pure true) (hi : PI X tg iter wi) (ok : BlkOk X.N X.env.scope scope own)
    (hg : ∀ (s : Shared) (H : Hp) (C : Addr) (cl : List (Str × Addr)) (fp : List Addr), PG (X.blk s H scope (compEnvC scope cl C X.env) fp) tg g)
    (ht : ∀ (s : Shared) (H : Hp) (C : Addr) (cl : List (Str × Addr)) (fp : List Addr), PTs (X.blk s H scope (compEnvC scope cl C X.env) fp) ifs tt)
    (hk : ∀ (s : Shared) (H : Hp) (C : Addr) (cl : List (Str × Addr)) (fp : List Addr), PE (X.blk s H scope (compEnvC scope cl C X.env) fp) kx tk)
    (he : ∀ (s : Shared) (H : Hp) (C : Addr) (cl : List (Str × Addr)) (fp : List Addr), PE (X.blk s H scope (compEnvC scope cl C X.env) fp) vx tv) (hs : ∀ x, foldedSetIterable iter X.env x = pure x := by intro _; rfl) :
    PS X (.Assign [.Name y py] (.DictComp kx vx [⟨tg, iter, ifs, 0⟩] scope pos) spos) (tAsg (tDc wi g tt tk tv (own.map (·.2))) (gName i)) := by
  refine ⟨fun pins s σ H D I h => ?_⟩
  have h : tDc wi g tt tk tv (own.map (·.2)) σ H (fun x H1 => gName i x σ H1 D.nx) := h
  rw [exec_Assign_Name_used _ _ _ _ hsw]
  refine wpAny_bind (wpAny_standAt (wpAny_bind ?_))
  show wpAny (model X.prog X.w) X.A (do let _ ← comprehension (.DictComp kx vx [⟨tg, iter, ifs, 0⟩] scope pos) scope X.env (firstIterPos [⟨tg, iter, ifs, 0⟩] pos) _ false (eval iter X.env) (some (assign (.Name y py) X.env))) _ _ s
  refine wpAny_bind (thn (dc_core (Qf := fun _ s' => SP X pins D .next s') hc hN I hi ok hg ht hk he hs h fun L C s' m H' I' q hn f => ?_) fun _ s' hq => wpAny_pure (wpAny_pure hq))
  obtain ⟨f0, f1, f2, f3, f4, f5⟩ := f
  show wpAny (model X.prog X.w) X.A (assign (.Name y py) X.env (.ref L)) _ _ _
  refine wpAny_assign_Name (store_ok2 (v := V.ref L) I' hN hy (.inl hyl) rfl (fun s2 I2 ⟨a, sb, ha⟩ => ⟨m, hn.sameBut sb ?_, fun h3 sb3 => ⟨_, H', I2.turned (t' := s2.toks) (fun b o hb e => (sb3.2 b hb).trans e) f0 f1 f3 f4 f5, q⟩⟩) (.inr hyl))
  rcases ha with z | z
  · rw [z]; exact f1
  · exact fun e => f4 y a z e.symm
end
end Zk
local macro_rules | `(tactic| walk_at "z0") => `(tactic| first
  | ((with_reducible refine Zk.z_var (v := ?zv) ?zh ?_); (case zh => exact rfl))
  | (with_reducible refine Zk.z_c ?_)
  | (with_reducible refine Zk.z_op ?_)
  | (with_reducible refine Zk.z_un ?_)
  | (with_reducible refine Zk.z_I0 ?_)
  | (with_reducible refine Zk.z_U ?_)
  | (with_reducible refine Zk.z_eqI ?_)
  | (with_reducible refine Zk.z_neI ?_)
  | (with_reducible refine Zk.z_eqB ?_)
  | (with_reducible refine Zk.z_neB ?_)
  | (with_reducible refine Zk.z_isB ?_)
  | (with_reducible refine Zk.z_notB ?_)
  | (with_reducible refine Zk.z_nil ?_)
  | (with_reducible refine Zk.z_cons ?_)
  | (with_reducible refine Zk.z_tup ?_)
  | (with_reducible refine Zk.z_lst ?_)
  | (with_reducible refine Zk.z_call ?_)
  | (with_reducible refine Zk.z_cb ?_)
  | (with_reducible refine Zk.z_orV ?_)
  | (with_reducible refine Zk.z_notV ?_)
  | (with_reducible refine Zk.z_ebl ?_)
  | (with_reducible refine Zk.z_eint ?_)
  | (with_reducible refine Zk.z_test ?_)
  | (with_reducible refine Zk.z_B ?_)
  | (with_reducible refine Zk.z_or ?_)
  | (with_reducible refine Zk.z_not ?_)
  | (with_reducible refine Zk.z_yes ?_)
  | (with_reducible refine Zk.z_seq ?_)
  | (with_reducible refine Zk.z_next ?_)
  | (with_reducible refine Zk.z_asg ?_)
  | (with_reducible refine Zk.z_name ?_)
  | (with_reducible refine Zk.z_ret ?_)
  | (with_reducible refine Zk.z_retN ?_)
  | (with_reducible refine Zk.z_drop ?_)
  | (with_reducible refine Zk.z_if ?_)
  | (with_reducible refine Zk.z_par ?_)
  | (with_reducible refine Zk.z_par2 ?_)
  | (with_reducible refine Zk.z_gSub ?_)
  | (with_reducible refine Zk.z_gCons ?_)
  | (with_reducible refine Zk.z_gNil ?_)
  | ((with_reducible refine Zk.z_pow ?zh ?_); (case zh => exact ⟨by decide, by decide, by decide⟩))
  | ((with_reducible refine Zk.z_modN ?zh ?_); (case zh => first | decide | omega))
  | (with_reducible refine Zk.z_for ?_)
  | (with_reducible refine Zk.z_rng1 ?_)
  | (with_reducible refine Zk.z_iL ?_)
  | (with_reducible refine Zk.z_iT ?_)
  | (with_reducible refine Zk.z_bm ?_)
  | (with_reducible refine Zk.z_bits ?_)
  | (with_reducible refine Zk.z_sl ?_)
  | (with_reducible refine Zk.z_noPart ?_)
  | (with_reducible refine Zk.z_part ?_)
  | (with_reducible refine Zk.z_chain ?_)
  | (with_reducible refine Zk.z_abs ?_)
  | (with_reducible refine Zk.z_intB ?_)
  | (with_reducible refine L2.iteT ?_)
  | (with_reducible refine L2.iteF ?_)
  | ((with_reducible refine Zk.z_itT ?zh ?_); (case zh => exact rfl))
  | ((with_reducible refine Zk.z_itF ?zh ?_); (case zh => exact rfl)))
local macro_rules | `(tactic| walk_at "z") => `(tactic| first
  | (walk_at "z0")
  | (with_reducible refine Zk.z_andV ?_)
  | (with_reducible refine Zk.z_and ?_)
  | (with_reducible refine Zk.z_orT ?_))
local macro_rules | `(tactic| walk_at "zy") => `(tactic| repeat (walk_at "z0"))
local macro_rules | `(tactic| walk_at "zz") => `(tactic| repeat (walk_at "z"))
local macro_rules | `(tactic| walk_at "lk") => `(tactic| first
  | assumption
  | ((refine Zk.same_get (by assumption) ?_); walk_at "lk")
  | ((refine Zk.Dr.tup (by assumption) ?_); walk_at "lk"))
namespace Zl
open PySem PySem.Spec PyProof.Rows L2 Zk
def topS (i : Nat) : Stmt := PySem.Challenge.pw_sumtold_k15_whole_webs.main.body.getD i (.Pass ⟨0, 0, 0, 0⟩)
abbrev s_is_whole_number : Stmt := topS 4
theorem sc_is_whole_number : FnScope ["thing"] ["thing"] (defScope s_is_whole_number) := ⟨rfl, rfl, rfl, by decide +kernel, rfl, by decide +kernel, by decide +kernel⟩
abbrev s_is_name : Stmt := topS 10
theorem sc_is_name : FnScope ["thing", "sign"] ["thing"] (defScope s_is_name) := ⟨rfl, rfl, rfl, by decide +kernel, rfl, by decide +kernel, by decide +kernel⟩
abbrev s_is_own_number : Stmt := topS 11
theorem sc_is_own_number : FnScope ["thing"] ["thing"] (defScope s_is_own_number) := ⟨rfl, rfl, rfl, by decide +kernel, rfl, by decide +kernel, by decide +kernel⟩
abbrev s_is_numbers : Stmt := topS 12
theorem sc_is_numbers : FnScope ["thing", "number"] ["thing"] (defScope s_is_numbers) := ⟨rfl, rfl, rfl, by decide +kernel, rfl, by decide +kernel, by decide +kernel⟩
abbrev s_are_unlike_names : Stmt := topS 13
theorem sc_are_unlike_names : FnScope ["one", "other"] ["one", "other"] (defScope s_are_unlike_names) := ⟨rfl, rfl, rfl, by decide +kernel, rfl, by decide +kernel, by decide +kernel⟩
abbrev s_is_hand : Stmt := topS 14
theorem sc_is_hand : FnScope ["thing"] ["thing"] (defScope s_is_hand) := ⟨rfl, rfl, rfl, by decide +kernel, rfl, by decide +kernel, by decide +kernel⟩
abbrev s_is_tie : Stmt := topS 15
theorem sc_is_tie : FnScope ["thing"] ["thing"] (defScope s_is_tie) := ⟨rfl, rfl, rfl, by decide +kernel, rfl, by decide +kernel, by decide +kernel⟩
abbrev s_check_hands : Stmt := topS 16
theorem sc_check_hands : FnScope ["hands", "hand", "name", "numbers"] ["hands"] (defScope s_check_hands) := ⟨rfl, rfl, rfl, by decide +kernel, rfl, by decide +kernel, by decide +kernel⟩
abbrev s_check_ties : Stmt := topS 17
theorem sc_check_ties : FnScope ["ties", "names", "tie", "one", "other"] ["ties", "names"] (defScope s_check_ties) := ⟨rfl, rfl, rfl, by decide +kernel, rfl, by decide +kernel, by decide +kernel⟩
abbrev s_check_web : Stmt := topS 18
theorem sc_check_web : FnScope ["web", "hands", "ties", "name", "numbers"] ["web"] (defScope s_check_web) := ⟨rfl, rfl, rfl, by decide +kernel, rfl, by decide +kernel, by decide +kernel⟩
abbrev s_tied_to : Stmt := topS 19
theorem sc_tied_to : FnScope ["name", "ties", "ahead", "behind", "one", "other"] ["name", "ties"] (defScope s_tied_to) := ⟨rfl, rfl, rfl, by decide +kernel, rfl, by decide +kernel, by decide +kernel⟩
abbrev s_led_to : Stmt := topS 20
theorem sc_led_to : FnScope ["name", "named", "found", "done", "here", "other"] ["name", "named"] (defScope s_led_to) := ⟨rfl, rfl, rfl, by decide +kernel, rfl, by decide +kernel, by decide +kernel⟩
abbrev s_is_whole : Stmt := topS 21
theorem sc_is_whole : FnScope ["web", "hands", "ties", "named", "name", "numbers"] ["web"] (defScope s_is_whole) := ⟨rfl, rfl, rfl, by decide +kernel, rfl, by decide +kernel, by decide +kernel⟩
abbrev s__law_cell_at : Stmt := topS 23
theorem sc__law_cell_at : FnScope ["_law_script", "_law_k"] ["_law_script", "_law_k"] (defScope s__law_cell_at) := ⟨rfl, rfl, rfl, by decide +kernel, rfl, by decide +kernel, by decide +kernel⟩
abbrev s__law_mixed : Stmt := topS 24
theorem sc__law_mixed : FnScope ["_law_cell", "_law_k", "_law_number"] ["_law_cell", "_law_k"] (defScope s__law_mixed) := ⟨rfl, rfl, rfl, by decide +kernel, rfl, by decide +kernel, by decide +kernel⟩
abbrev s__law_well : Stmt := topS 25
theorem sc__law_well : FnScope ["_law_cell"] ["_law_cell"] (defScope s__law_well) := ⟨rfl, rfl, rfl, by decide +kernel, rfl, by decide +kernel, by decide +kernel⟩
abbrev s__law_draw : Stmt := topS 26
theorem sc__law_draw : FnScope ["_law_well_here", "_law_many", "_law_found"] ["_law_well_here", "_law_many"] (defScope s__law_draw) := ⟨rfl, rfl, rfl, by decide +kernel, rfl, by decide +kernel, by decide +kernel⟩
abbrev s__law_names : Stmt := topS 28
theorem sc__law_names : FnScope ["_law_well_here", "_law_many", "_law_letters", "_law_words", "_law_shift", "_law_way", "_law_stem", "_law_at", "_law_k"] ["_law_well_here", "_law_many"] (defScope s__law_names) := ⟨rfl, rfl, rfl, by decide +kernel, rfl, by decide +kernel, by decide +kernel⟩
abbrev s__law_numbers : Stmt := topS 29
theorem sc__law_numbers : FnScope ["_law_well_here", "_law_size", "_law_found", "_law_k", "_law_some"] ["_law_well_here", "_law_size"] (defScope s__law_numbers) := ⟨rfl, rfl, rfl, by decide +kernel, rfl, by decide +kernel, by decide +kernel⟩
abbrev s__law_ties : Stmt := topS 30
theorem sc__law_ties : FnScope ["_law_well_here", "_law_names_here", "_law_share", "_law_found", "_law_k", "_law_j", "_law_at"] ["_law_well_here", "_law_names_here", "_law_share"] (defScope s__law_ties) := ⟨rfl, rfl, rfl, by decide +kernel, rfl, by decide +kernel, by decide +kernel⟩
abbrev s__law_web : Stmt := topS 31
theorem sc__law_web : FnScope ["_law_well_here", "_law_most", "_law_size", "_law_names_here", "_law_hands", "_law_name"] ["_law_well_here", "_law_most"] (defScope s__law_web) := ⟨rfl, rfl, rfl, by decide +kernel, rfl, by decide +kernel, by decide +kernel⟩
abbrev s__law_row_of_ties : Stmt := topS 32
theorem sc__law_row_of_ties : FnScope ["_law_well_here", "_law_names_here", "_law_turn", "_law_order", "_law_found", "_law_at", "_law_k"] ["_law_well_here", "_law_names_here"] (defScope s__law_row_of_ties) := ⟨rfl, rfl, rfl, by decide +kernel, rfl, by decide +kernel, by decide +kernel⟩
abbrev s__law_is_whole : Stmt := topS 33
theorem sc__law_is_whole : FnScope ["_law_names_here", "_law_ties_here", "_law_marked", "_law_turn", "_law_one", "_law_other"] ["_law_names_here", "_law_ties_here"] (defScope s__law_is_whole) := ⟨rfl, rfl, rfl, by decide +kernel, rfl, by decide +kernel, by decide +kernel⟩
abbrev s_law : Stmt := topS 34
theorem sc_law : FnScope ["_law_script", "_law_cell", "_law_well_here", "_law_hands", "_law_ties_here", "_law_names_here", "_law_kept", "_law_due", "_law_web_here", "_law_told", "_law_hand", "_law_tie"] ["_law_script"] (defScope s_law) := ⟨rfl, rfl, rfl, by decide +kernel, rfl, by decide +kernel, by decide +kernel⟩
section
variable {P : Program} {w : World} {K : PySem.W.Frag} {mg : Str → Option Value} {base : Heap}
def spWhole (K : PySem.W.Frag) : Sp := fun vs H Q _ => ∃ (x : V) (n : String) (a b : Bool), vs = [x] ∧ TyX K H x (.type n) ∧ kitB n "int" = some a ∧ kitB n "bool" = some b ∧ Q (.bl (a && !b)) H
theorem ok_is_whole_number {f : Addr} {fd : FuncData} (F : FnP K "is_whole_number" s_is_whole_number f fd) (m_isinstance : mg "isinstance" = none) (m_int : mg "int" = none) (m_bool : mg "bool" = none) : FnOk P w K mg base CX0 1 f fd ["thing"] (spWhole K) := by
  refine F.ok sc_is_whole_number (fun vs H Q E h => ?_) (fun cdv A outer s H vs Q E hr h => ?_)
  · obtain ⟨x, n, a, b, rfl, _⟩ := h; rfl
  obtain ⟨x, n, a, b, rfl, ty, ha, hb, q⟩ := h
  refine ⟨_, PSs.nox (pss_one (ps_ret (pe_and (pe_callB (call_isiE K) (by rfl) m_isinstance (by decide +kernel) (pa_cons (pv 0) (pa_cons (pe_bltn (v := .ty "int") (by rfl) m_int (by decide +kernel) rfl) pa_nil))) (pe_one (pe_not (pe_callB (call_isiE K) (by rfl) m_isinstance (by decide +kernel) (pa_cons (pv 0) (pa_cons (pe_bltn (v := .ty "bool") (by rfl) m_bool (by decide +kernel) rfl) pa_nil)))))))), ?_⟩
  walk_at "zz"
  refine z_isi ty ha ?_
  walk_at "zz"
  cases a with
  | true =>
    walk_at "zz"
    refine z_isi ty hb ?_
    walk_at "zz"
    exact q
  | false =>
    walk_at "zz"
    exact q
def spIsName (K : PySem.W.Frag) (Pt : Addr) : Sp := fun vs H Q _ => ∃ x, vs = [x] ∧ ((∃ n, TyX K H x (.type n) ∧ kitB n "str" = some false ∧ Q (.bl false) H) ∨ ∃ z : Str, x = .str z ∧ z.length ≤ 1000 ∧ GxR.TabG H Pt ∧ ∀ H2, GxR.Tabbed Pt H H2 → Q (.bl (nmB z)) H2)
theorem ok_is_name {f ca Pt : Addr} {fd : FuncData} {t1 : Tok} (F : FnP K "is_name" s_is_name f fd) (hcd : fd.code = .ref ca) (TB : GxR.TabB base mg ca Pt) (m_isinstance : mg "isinstance" = none) (m_str : mg "str" = none) (m_len : mg "len" = none) (m_all : mg "all" = none) (c_LONGEST_NAME : mg "LONGEST_NAME" = some (.int 8 t1)) : FnOk P w K mg base CX0 5 f fd ["thing"] (spIsName K Pt) := by
  refine okC F sc_is_name (fun vs H Q E h => ?_) (fun A outer s H vs Q E hr h => ?_)
  · obtain ⟨x, rfl, _⟩ := h; rfl
  obtain ⟨x, rfl, h⟩ := h
  refine ⟨_, PSs.nox (pss_cons (ps_if (PW.pt (pw_or (pt_not (pt_val (pe_callB (call_isiE K) (by rfl) m_isinstance (by decide +kernel) (pa_cons (pv 0) (pa_cons (pe_bltn (v := .ty "str") (by rfl) m_str (by decide +kernel) rfl) pa_nil))))) (pw_or1 (pt_not (pt_chain op_le op_le pe_int (pe_callB (call_lenE K) (by rfl) m_len (by decide +kernel) (pa_cons (pv 0) pa_nil)) (pe_glob (v := .int 8) (by rfl) c_LONGEST_NAME ⟨_, rfl⟩))))))
    (pss_one (ps_ret pe_bl))
    pss_nil)
  (pss_one (ps_ret (pe_all (k := 0) (own := [("sign", 1)]) (g := gName 1) (hr.mono (by decide)) (by rfl) m_all TB hcd (by rfl) sc_is_name.nd (pi_str (pv 0)) (blkOk_by (own := [("sign", 1)]) (N := ["thing", "sign"]) (sc := defScope s_is_name) (by decide +kernel)) ⟨rfl, by decide +kernel, rfl⟩ (fun _ _ _ _ _ _ _ hr => (pg_name (i := 1) sc_is_name.nd rfl (.inl rfl))) (fun _ _ _ _ _ _ _ hr => pts_nil) (fun _ _ _ _ _ _ _ hr => (pe_chain op_leS op_leS pe_str (pv 1) pe_str)) (fun _ => rfl))))), ?_⟩
  walk_at "zz"
  rcases h with ⟨n, ty, hk, q⟩ | ⟨z, rfl, hz, hT, q⟩
  · refine z_isi ty hk ?_
    walk_at "zz"
    exact q
  · refine z_isi (n := "str") (k := true) (.base (.str z)) (by decide +kernel) ?_
    walk_at "zz"
    refine z_lenS hz ?_
    walk_at "zz"
    have q0 := q H ⟨hT, fun _ _ => rfl⟩
    unfold nmB at q q0
    by_cases h1 : 1 ≤ z.length
    · rw [decide_eq_true h1] at q q0
      rw [decide_eq_true (show (1 : Int) ≤ (z.length : Int) by omega)]
      walk_at "zz"
      by_cases h2 : z.length ≤ 8
      · rw [decide_eq_true h2] at q q0
        rw [decide_eq_true (show (z.length : Int) ≤ 8 by omega)]
        walk_at "zz"
        refine ⟨_, rfl, z, rfl, hT, fun H2 hT2 => ?_⟩
        have q2 := q H2 hT2
        simp only [Bool.true_and] at q2
        have ez : ∀ i c, z.cps[i]? = some c → z.cps.toList[i]? = some c := fun i c h => by rw [Array.getElem?_toList]; exact h
        refine all_pure (J := Its z) z.cps.size (fun i => match z.cps[i]? with | some c => smB c | none => false) (fun i hi => hi) (Nat.le_refl _) (fun i x H' hi hy Q' B hq => ?_) (fun ha => ?_) (fun i hi hf => ?_)
        · obtain ⟨rfl, c, hc, rfl⟩ := hy
          simp only [hc] at hq
          refine ⟨rfl, ?_⟩
          walk_at "zz"
          refine z_leS (c := 97) (d := c) ?_
          walk_at "zz"
          unfold smB at hq
          by_cases hc1 : 97 ≤ c
          · rw [decide_eq_true hc1] at hq ⊢
            walk_at "zz"
            exact z_leS (c := c) (d := 122) hq
          · rw [decide_eq_false hc1] at hq ⊢
            walk_at "zz"
            exact hq
        · refine bool_bl (Eq.symm ?_) q2
          rw [List.all_eq_true]
          intro c hc
          obtain ⟨j, hj, e⟩ := List.getElem_of_mem hc
          have hj' : j < z.cps.size := by simpa using hj
          have := ha j hj'
          have e2 : z.cps[j]? = some c := by rw [← Array.getElem?_toList, List.getElem?_eq_getElem hj, e]
          simpa [e2] using this
        · refine bool_bl (Eq.symm ?_) q2
          rw [Bool.eq_false_iff]
          intro ht
          rw [List.all_eq_true] at ht
          have e2 : z.cps[i]? = some z.cps[i] := Array.getElem?_eq_getElem hi
          simp only [e2] at hf
          rw [ht _ (by simp)] at hf
          cases hf
      · rw [decide_eq_false h2] at q0
        rw [decide_eq_false (show ¬ (z.length : Int) ≤ 8 by omega)]
        walk_at "zz"
        exact q0
    · rw [decide_eq_false h1] at q0
      rw [decide_eq_false (show ¬ (1 : Int) ≤ (z.length : Int) by omega)]
      walk_at "zz"
      exact q0
def spOwn : Sp := fun vs H Q _ => ∃ x k, vs = [x] ∧ OwnV H x k ∧ Q (.bl k) H
theorem ok_is_own_number {f : Addr} {fd : FuncData} {t1 : Tok} (F : FnP K "is_own_number" s_is_own_number f fd) (c_GREATEST_NUMBER : mg "GREATEST_NUMBER" = some (.int 1000000000000 t1)) (h_is_whole_number : Has P w K mg base 1 "is_whole_number" ["thing"] (spWhole K)) : FnOk P w K mg base CX0 2 f fd ["thing"] spOwn := by
  refine F.ok sc_is_own_number (fun vs H Q E h => ?_) (fun cdv A outer s H vs Q E hr h => ?_)
  · obtain ⟨x, k, rfl, _⟩ := h; rfl
  obtain ⟨x, k, rfl, h, q⟩ := h
  refine ⟨_, PSs.nox (pss_one (ps_ret (pe_and (pe_callH h_is_whole_number (hr.mono (by decide)) (by rfl) (pa_cons (pv 0) pa_nil)) (pe_one (pe_chain op_le op_le (pe_un un_neg (pe_glob (v := .int 1000000000000) (by rfl) c_GREATEST_NUMBER ⟨_, rfl⟩)) (pv 0) (pe_glob (v := .int 1000000000000) (by rfl) c_GREATEST_NUMBER ⟨_, rfl⟩)))))), ?_⟩
  walk_at "zz"
  rcases h with ⟨n, rfl, rfl⟩ | ⟨rfl, h⟩
  · refine ⟨_, "int", true, false, rfl, .base (.int n), by decide +kernel, by decide +kernel, ?_⟩
    walk_at "zz"
    unfold inFar at q
    by_cases h1 : -1000000000000 ≤ n
    · rw [decide_eq_true h1] at q ⊢
      walk_at "zz"
      exact q
    · rw [decide_eq_false h1] at q ⊢
      walk_at "zz"
      exact q
  · obtain ⟨n, a, b, ty, ha, hb, e⟩ := h.ty (K := K)
    refine ⟨_, n, a, b, rfl, ty, ha, hb, ?_⟩
    rw [e]
    walk_at "zz"
    exact q
def nuB (ks : List Bool) : Bool := decide (1 ≤ ks.length) && (decide (ks.length ≤ 3) && ks.all id)
def OwnAll (H : Hp) (xs : List V) (ks : List Bool) : Prop := ks.length = xs.length ∧ ∀ (i : Nat) (x : V) (k : Bool), xs[i]? = some x → ks[i]? = some k → OwnV H x k
def spNums (K : PySem.W.Frag) (Pt : Addr) : Sp := fun vs H Q _ => ∃ x, vs = [x] ∧ ((∃ n, TyX K H x (.type n) ∧ kitB n "tuple" = some false ∧ Q (.bl false) H) ∨ ∃ p xs ks, x = .ref p ∧ H p = some (.tup xs) ∧ OwnAll H xs ks ∧ GxR.TabG H Pt ∧ ∀ H2, GxR.Tabbed Pt H H2 → Q (.bl (nuB ks)) H2)
theorem ok_is_numbers {f ca Pt : Addr} {fd : FuncData} {t1 : Tok} (F : FnP K "is_numbers" s_is_numbers f fd) (hcd : fd.code = .ref ca) (TB : GxR.TabB base mg ca Pt) (m_isinstance : mg "isinstance" = none) (m_tuple : mg "tuple" = none) (m_len : mg "len" = none) (m_all : mg "all" = none) (c_MOST_NUMBERS : mg "MOST_NUMBERS" = some (.int 3 t1)) (h_is_own_number : Has P w K mg base 2 "is_own_number" ["thing"] spOwn) : FnOk P w K mg base CX0 7 f fd ["thing"] (spNums K Pt) := by
  refine okC F sc_is_numbers (fun vs H Q E h => ?_) (fun A outer s H vs Q E hr h => ?_)
  · obtain ⟨x, rfl, _⟩ := h; rfl
  obtain ⟨x, rfl, h⟩ := h
  refine ⟨_, PSs.nox (pss_cons (ps_if (PW.pt (pw_or (pt_not (pt_val (pe_callB (call_isiE K) (by rfl) m_isinstance (by decide +kernel) (pa_cons (pv 0) (pa_cons (pe_bltn (v := .ty "tuple") (by rfl) m_tuple (by decide +kernel) rfl) pa_nil))))) (pw_or1 (pt_not (pt_chain op_le op_le pe_int (pe_callB (call_lenE K) (by rfl) m_len (by decide +kernel) (pa_cons (pv 0) pa_nil)) (pe_glob (v := .int 3) (by rfl) c_MOST_NUMBERS ⟨_, rfl⟩))))))
    (pss_one (ps_ret pe_bl))
    pss_nil)
  (pss_one (ps_ret (pe_all (k := 2) (own := [("number", 1)]) (g := gName 1) (hr.mono (by decide)) (by rfl) m_all TB hcd (by rfl) sc_is_numbers.nd (pi_tupE K (pv 0)) (blkOk_by (own := [("number", 1)]) (N := ["thing", "number"]) (sc := defScope s_is_numbers) (by decide +kernel)) ⟨rfl, by decide +kernel, rfl⟩ (fun _ _ _ _ _ _ _ hr => (pg_name (i := 1) sc_is_numbers.nd rfl (.inl rfl))) (fun _ _ _ _ _ _ _ hr => pts_nil) (fun _ _ _ _ _ _ _ hr => (pe_callH h_is_own_number (hr.mono (by decide)) (by rfl) (pa_cons (pv 1) pa_nil))) (fun _ => rfl))))), ?_⟩
  walk_at "zz"
  rcases h with ⟨n, ty, hk, q⟩ | ⟨p, xs, ks, rfl, hp, ⟨hl, hks⟩, hT, q⟩
  · refine z_isi ty hk ?_
    walk_at "zz"
    exact q
  · refine z_isi (n := "tuple") (k := true) (.base (.tup hp)) (by decide +kernel) ?_
    walk_at "zz"
    refine z_lenT hp ?_
    walk_at "zz"
    have q0 := q H ⟨hT, fun _ _ => rfl⟩
    unfold nuB at q q0
    rw [hl] at q q0
    by_cases h1 : 1 ≤ xs.length
    · rw [decide_eq_true h1] at q q0
      rw [decide_eq_true (show (1 : Int) ≤ (xs.length : Int) by omega)]
      walk_at "zz"
      by_cases h2 : xs.length ≤ 3
      · rw [decide_eq_true h2] at q q0
        rw [decide_eq_true (show (xs.length : Int) ≤ 3 by omega)]
        walk_at "zz"
        refine ⟨_, rfl, p, rfl, ⟨_, SqT.of hp⟩, hT, fun H2 hT2 => ?_⟩
        have q2 := q H2 hT2
        simp only [Bool.true_and] at q2
        have hp2 := tab_get hT2 hp (fun _ z => by cases z) hT
        refine all_pure (J := Itt K p) xs.length (fun i => match ks[i]? with | some k => k | none => false) (fun i hi => ⟨xs, xs[i], SqT.of hp2, List.getElem?_eq_getElem hi⟩) ⟨xs, SqT.of hp2, Nat.le_refl _⟩ (fun i x H' hi hy Q' B hq => ?_) (fun ha => ?_) (fun i hi hf => ?_)
        · obtain ⟨rfl, hx⟩ := hy
          have ex : xs[i]? = some x := hx xs (SqT.of hp2)
          have hi' : i < ks.length := by omega
          have ek : ks[i]? = some ks[i] := List.getElem?_eq_getElem hi'
          simp only [ek] at hq
          refine ⟨rfl, ?_⟩
          walk_at "zz"
          exact ⟨x, ks[i], rfl, (hks i x ks[i] ex ek).tab hT2 hT, hq⟩
        · refine bool_bl (Eq.symm ?_) q2
          rw [List.all_eq_true]
          intro k hk
          obtain ⟨j, hj, e⟩ := List.getElem_of_mem hk
          have := ha j (by omega)
          have e2 : ks[j]? = some k := by rw [List.getElem?_eq_getElem hj, e]
          simpa [e2] using this
        · refine bool_bl (Eq.symm ?_) q2
          rw [Bool.eq_false_iff]
          intro ht
          rw [List.all_eq_true] at ht
          have hi' : i < ks.length := by omega
          have e2 : ks[i]? = some ks[i] := List.getElem?_eq_getElem hi'
          simp only [e2] at hf
          have h3 : id ks[i] = true := ht _ (List.getElem_mem hi')
          rw [show id ks[i] = ks[i] from rfl, hf] at h3
          cases h3
      · rw [decide_eq_false h2] at q0
        rw [decide_eq_false (show ¬ (xs.length : Int) ≤ 3 by omega)]
        walk_at "zz"
        exact q0
    · rw [decide_eq_false h1] at q0
      rw [decide_eq_false (show ¬ (1 : Int) ≤ (xs.length : Int) by omega)]
      walk_at "zz"
      exact q0
theorem nm_sp {Pt : Addr} {H : Hp} {x : V} {k : Bool} {Q : VK} {E : XK} (h : NmV H x k) (hT : GxR.TabG H Pt) (q : ∀ H2, GxR.Tabbed Pt H H2 → Q (.bl k) H2) : spIsName K Pt [x] H Q E := by
  rcases h with ⟨n, t, ne, rfl⟩ | ⟨z, rfl, hz, rfl⟩
  · exact ⟨x, rfl, .inl ⟨n, t.x, t.noStr ne, q H ⟨hT, fun _ _ => rfl⟩⟩⟩
  · exact ⟨_, rfl, .inr ⟨z, rfl, hz, hT, q⟩⟩
theorem z_neS {H : Hp} {Q : VK} {y z : Str} (q : Q (.bl (!decide (y = z))) H) : rNe (.str y) (.str z) H Q := ⟨rfl, by
  have e : decide (V.str y = V.str z) = decide (y = z) := by
    by_cases h : y = z
    · rw [h, decide_eq_true rfl, decide_eq_true rfl]
    · rw [decide_eq_false h, decide_eq_false (fun z => h (V.str.inj z))]
  rw [e]
  exact q⟩
theorem z_eqS {H : Hp} {Q : VK} {y z : Str} (q : Q (.bl (decide (y = z))) H) : rEq (.str y) (.str z) H Q := ⟨rfl, by
  have e : decide (V.str y = V.str z) = decide (y = z) := by
    by_cases h : y = z
    · rw [h, decide_eq_true rfl, decide_eq_true rfl]
    · rw [decide_eq_false h, decide_eq_false (fun z => h (V.str.inj z))]
  rw [e]
  exact q⟩
def UnV (H : Hp) (x y : V) (k : Bool) : Prop := ∃ k1 k2, NmV H x k1 ∧ NmV H y k2 ∧ (((k1 && k2) = false ∧ k = false) ∨ ∃ z1 z2 : Str, x = .str z1 ∧ y = .str z2 ∧ k1 = true ∧ k2 = true ∧ k = !decide (z1 = z2))
theorem UnV.kp {H H' : Hp} {x y : V} {k : Bool} (h : UnV H x y k) (a : Kp H H') : UnV H' x y k := by
  obtain ⟨k1, k2, h1, h2, r⟩ := h
  exact ⟨k1, k2, h1.kp a, h2.kp a, r⟩
def spUnlike (Pt : Addr) : Sp := fun vs H Q _ => ∃ x y k, vs = [x, y] ∧ UnV H x y k ∧ GxR.TabG H Pt ∧ ∀ H2, GxR.Tabbed Pt H H2 → Q (.bl k) H2
theorem ok_are_unlike_names {f Pt : Addr} {fd : FuncData} (F : FnP K "are_unlike_names" s_are_unlike_names f fd) (h_is_name : Has P w K mg base 5 "is_name" ["thing"] (spIsName K Pt)) : FnOk P w K mg base CX0 6 f fd ["one", "other"] (spUnlike Pt) := by
  refine F.ok sc_are_unlike_names (fun vs H Q E h => ?_) (fun cdv A outer s H vs Q E hr h => ?_)
  · obtain ⟨x, y, k, rfl, _⟩ := h; rfl
  obtain ⟨x, y, k, rfl, ⟨k1, k2, n1, n2, r⟩, hT, q⟩ := h
  refine ⟨_, PSs.nox (pss_one (ps_ret (pe_and (pe_callH h_is_name (hr.mono (by decide)) (by rfl) (pa_cons (pv 0) pa_nil)) (pe_and (pe_callH h_is_name (hr.mono (by decide)) (by rfl) (pa_cons (pv 1) pa_nil)) (pe_one (pe_cmpR op_ne (pv 0) (pv 1) (nomark _))))))), ?_⟩
  walk_at "zz"
  refine nm_sp n1 hT (fun H2 T2 => ?_)
  cases k1 with
  | false =>
    walk_at "zz"
    rcases r with ⟨_, rfl⟩ | ⟨_, _, _, _, e, _⟩
    · exact q _ T2
    · cases e
  | true =>
    walk_at "zz"
    refine nm_sp (n2.kp (Kp.of_tab T2 hT)) T2.1 (fun H3 T3 => ?_)
    cases k2 with
    | false =>
      walk_at "zz"
      rcases r with ⟨_, rfl⟩ | ⟨_, _, _, _, _, e, _⟩
      · exact q _ (tab_trans T2 T3)
      · cases e
    | true =>
      walk_at "zz"
      rcases r with ⟨e, _⟩ | ⟨z1, z2, rfl, rfl, _, _, rfl⟩
      · cases e
      · exact z_neS (q _ (tab_trans T2 T3))
def NuV (H : Hp) (x : V) (k : Bool) : Prop := (∃ n, TyV H x n ∧ n ≠ "tuple" ∧ k = false) ∨ ∃ p xs ks, x = .ref p ∧ H p = some (.tup xs) ∧ OwnAll H xs ks ∧ k = nuB ks
theorem OwnAll.kp {H H' : Hp} {xs : List V} {ks : List Bool} (h : OwnAll H xs ks) (a : Kp H H') : OwnAll H' xs ks := ⟨h.1, fun i x k hx hk => (h.2 i x k hx hk).kp a⟩
theorem NuV.kp {H H' : Hp} {x : V} {k : Bool} (h : NuV H x k) (a : Kp H H') : NuV H' x k := by
  rcases h with ⟨n, t, r⟩ | ⟨p, xs, ks, e, hp, ow, r⟩
  · exact .inl ⟨n, t.kp a, r⟩
  · exact .inr ⟨p, xs, ks, e, a.tup hp, OwnAll.kp ow a, r⟩
theorem nu_sp {Pt : Addr} {H : Hp} {x : V} {k : Bool} {Q : VK} {E : XK} (h : NuV H x k) (hT : GxR.TabG H Pt) (q : ∀ H2, GxR.Tabbed Pt H H2 → Q (.bl k) H2) : spNums K Pt [x] H Q E := by
  rcases h with ⟨n, t, ne, rfl⟩ | ⟨p, xs, ks, rfl, hp, ow, rfl⟩
  · exact ⟨x, rfl, .inl ⟨n, t.x, t.noTup ne, q H ⟨hT, fun _ _ => rfl⟩⟩⟩
  · exact ⟨_, rfl, .inr ⟨p, xs, ks, rfl, hp, ow, hT, q⟩⟩
theorem own_ints {H : Hp} (ns : List Int) : OwnAll H (ns.map V.int) (ns.map inFar) := by
  refine ⟨by rw [List.length_map, List.length_map], fun i x k hx hk => ?_⟩
  rw [List.getElem?_map] at hx hk
  cases hn : ns[i]? with
  | none => rw [hn] at hx; cases hx
  | some n =>
    rw [hn] at hx hk
    cases hx
    cases hk
    exact .inl ⟨n, rfl, rfl⟩
theorem nu_ints {H : Hp} {p : Addr} {ns : List Int} (hp : H p = some (.tup (ns.map V.int))) (h1 : 1 ≤ ns.length) (h3 : ns.length ≤ 3) (h : ∀ x ∈ ns, inFar x = true) : NuV H (.ref p) true := by
  refine .inr ⟨p, _, _, rfl, hp, own_ints ns, ?_⟩
  unfold nuB
  have e : (ns.map inFar).all id = true := by
    rw [List.all_eq_true]
    intro k hk
    obtain ⟨x, hx, rfl⟩ := List.mem_map.mp hk
    exact h x hx
  rw [List.length_map, decide_eq_true h1, decide_eq_true h3, e]
  rfl
/-- is_hand's answer -/
def HdV (H : Hp) (v : V) (k : Bool) : Prop := (∃ n, TyV H v n ∧ n ≠ "tuple" ∧ k = false) ∨ ∃ p xs, v = .ref p ∧ H p = some (.tup xs) ∧ ((xs.length ≠ 2 ∧ k = false) ∨ ∃ x y k1 k2, xs = [x, y] ∧ NmV H x k1 ∧ NuV H y k2 ∧ k = (k1 && k2))
theorem HdV.kp {H H' : Hp} {v : V} {k : Bool} (h : HdV H v k) (a : Kp H H') : HdV H' v k := by
  rcases h with ⟨n, t, r⟩ | ⟨p, xs, e, hp, r | ⟨x, y, k1, k2, ex, h1, h2, ek⟩⟩
  · exact .inl ⟨n, t.kp a, r⟩
  · exact .inr ⟨p, xs, e, a.tup hp, .inl r⟩
  · exact .inr ⟨p, xs, e, a.tup hp, .inr ⟨x, y, k1, k2, ex, h1.kp a, h2.kp a, ek⟩⟩
def spHand (Ps : List Addr) : Sp := fun vs H Q _ => ∃ v k, vs = [v] ∧ HdV H v k ∧ TGs H Ps ∧ ∀ H2, Kc Ps H H2 → Q (.bl k) H2
theorem ok_is_hand {f P1 P2 : Addr} {Ps : List Addr} {fd : FuncData} (F : FnP K "is_hand" s_is_hand f fd) (i1 : P1 ∈ Ps) (i2 : P2 ∈ Ps) (m_isinstance : mg "isinstance" = none) (m_tuple : mg "tuple" = none) (m_len : mg "len" = none)
    (h_is_name : Has P w K mg base 5 "is_name" ["thing"] (spIsName K P1)) (h_is_numbers : Has P w K mg base 7 "is_numbers" ["thing"] (spNums K P2)) : FnOk P w K mg base CX0 8 f fd ["thing"] (spHand Ps) := by
  refine F.ok sc_is_hand (fun vs H Q E h => ?_) (fun cdv A outer s H vs Q E hr h => ?_)
  · obtain ⟨v, k, rfl, _⟩ := h; rfl
  obtain ⟨v, k, rfl, dd, hT, q⟩ := h
  refine ⟨_, PSs.nox (pss_cons (ps_if (PW.pt (pw_or (pt_not (pt_val (pe_callB (call_isiE K) (by rfl) m_isinstance (by decide +kernel) (pa_cons (pv 0) (pa_cons (pe_bltn (v := .ty "tuple") (by rfl) m_tuple (by decide +kernel) rfl) pa_nil))))) (pw_or1 (pt_cmpR op_ne (pe_callB (call_lenE K) (by rfl) m_len (by decide +kernel) (pa_cons (pv 0) pa_nil)) pe_int (nomark _)))))
    (pss_one (ps_ret pe_bl))
    pss_nil)
  (pss_one (ps_ret (pe_and (pe_callH h_is_name (hr.mono (by decide)) (by rfl) (pa_cons (pe_ix (ix_tupE K) (pv 0) pe_int (fun _ _ => rfl)) pa_nil)) (pe_one (pe_callH h_is_numbers (hr.mono (by decide)) (by rfl) (pa_cons (pe_ix (ix_tupE K) (pv 0) pe_int (fun _ _ => rfl)) pa_nil))))))), ?_⟩
  walk_at "zz"
  rcases dd with ⟨n, t, ne, rfl⟩ | ⟨p, xs, rfl, hp, dd⟩
  · refine z_isi t.x (t.noTup ne) ?_
    walk_at "zz"
    exact q _ (Kc.refl hT)
  refine z_isi (n := "tuple") (k := true) (.base (.tup hp)) (by decide +kernel) ?_
  walk_at "zz"
  refine z_lenT hp ?_
  walk_at "zz"
  rcases dd with ⟨ne, rfl⟩ | ⟨x, y, k1, k2, rfl, h1, h2, rfl⟩
  · rw [decide_eq_false (show ¬ (xs.length : Int) = 2 by omega)]
    walk_at "zz"
    exact q _ (Kc.refl hT)
  rw [decide_eq_true (show (([x, y] : List V).length : Int) = 2 by rfl)]
  walk_at "zz"
  refine z_ixT (SqT.of hp) rfl ?_
  walk_at "zz"
  refine nm_sp h1 (hT _ i1) (fun H2 T2 => ?_)
  have c2 := Kc.of_tab hT i1 T2
  cases k1 with
  | false =>
    walk_at "zz"
    exact q _ c2
  | true =>
    walk_at "zz"
    refine z_ixT (SqT.of (c2.kp.tup hp)) rfl ?_
    walk_at "zz"
    exact nu_sp (h2.kp c2.kp) (c2.tg _ i2) fun H3 T3 => q _ (c2.trans (Kc.of_tab c2.tg i2 T3))
/-- is_tie's answer -/
def TiV (H : Hp) (v : V) (k : Bool) : Prop := (∃ n, TyV H v n ∧ n ≠ "tuple" ∧ k = false) ∨ ∃ p xs, v = .ref p ∧ H p = some (.tup xs) ∧ ((xs.length ≠ 2 ∧ k = false) ∨ ∃ x y, xs = [x, y] ∧ UnV H x y k)
theorem TiV.kp {H H' : Hp} {v : V} {k : Bool} (h : TiV H v k) (a : Kp H H') : TiV H' v k := by
  rcases h with ⟨n, t, r⟩ | ⟨p, xs, e, hp, r | ⟨x, y, ex, h1⟩⟩
  · exact .inl ⟨n, t.kp a, r⟩
  · exact .inr ⟨p, xs, e, a.tup hp, .inl r⟩
  · exact .inr ⟨p, xs, e, a.tup hp, .inr ⟨x, y, ex, h1.kp a⟩⟩
def spTie (Ps : List Addr) : Sp := fun vs H Q _ => ∃ v k, vs = [v] ∧ TiV H v k ∧ TGs H Ps ∧ ∀ H2, Kc Ps H H2 → Q (.bl k) H2
theorem ok_is_tie {f P1 : Addr} {Ps : List Addr} {fd : FuncData} (F : FnP K "is_tie" s_is_tie f fd) (i1 : P1 ∈ Ps) (m_isinstance : mg "isinstance" = none) (m_tuple : mg "tuple" = none) (m_len : mg "len" = none)
    (h_are_unlike_names : Has P w K mg base 6 "are_unlike_names" ["one", "other"] (spUnlike P1)) : FnOk P w K mg base CX0 7 f fd ["thing"] (spTie Ps) := by
  refine F.ok sc_is_tie (fun vs H Q E h => ?_) (fun cdv A outer s H vs Q E hr h => ?_)
  · obtain ⟨v, k, rfl, _⟩ := h; rfl
  obtain ⟨v, k, rfl, dd, hT, q⟩ := h
  refine ⟨_, PSs.nox (pss_cons (ps_if (PW.pt (pw_or (pt_not (pt_val (pe_callB (call_isiE K) (by rfl) m_isinstance (by decide +kernel) (pa_cons (pv 0) (pa_cons (pe_bltn (v := .ty "tuple") (by rfl) m_tuple (by decide +kernel) rfl) pa_nil))))) (pw_or1 (pt_cmpR op_ne (pe_callB (call_lenE K) (by rfl) m_len (by decide +kernel) (pa_cons (pv 0) pa_nil)) pe_int (nomark _)))))
    (pss_one (ps_ret pe_bl))
    pss_nil)
  (pss_one (ps_ret (pe_callH h_are_unlike_names (hr.mono (by decide)) (by rfl) (pa_cons (pe_ix (ix_tupE K) (pv 0) pe_int (fun _ _ => rfl)) (pa_cons (pe_ix (ix_tupE K) (pv 0) pe_int (fun _ _ => rfl)) pa_nil)))))), ?_⟩
  walk_at "zz"
  rcases dd with ⟨n, t, ne, rfl⟩ | ⟨p, xs, rfl, hp, dd⟩
  · refine z_isi t.x (t.noTup ne) ?_
    walk_at "zz"
    exact q _ (Kc.refl hT)
  refine z_isi (n := "tuple") (k := true) (.base (.tup hp)) (by decide +kernel) ?_
  walk_at "zz"
  refine z_lenT hp ?_
  walk_at "zz"
  rcases dd with ⟨ne, rfl⟩ | ⟨x, y, rfl, hu⟩
  · rw [decide_eq_false (show ¬ (xs.length : Int) = 2 by omega)]
    walk_at "zz"
    exact q _ (Kc.refl hT)
  rw [decide_eq_true (show (([x, y] : List V).length : Int) = 2 by rfl)]
  walk_at "zz"
  refine z_ixT (SqT.of hp) rfl ?_
  walk_at "zz"
  refine z_ixT (SqT.of hp) rfl ?_
  walk_at "zz"
  exact ⟨x, y, k, rfl, hu, hT _ i1, fun H2 T2 => q _ (Kc.of_tab hT i1 T2)⟩
/-- a list of hands, as it stands -/
abbrev HandR := Addr × Str × Addr × List Int
structure Hands (H : Hp) (h : Addr) (L : List HandR) : Prop where
  lst : H h = some (.lst (L.map fun m => .ref m.1))
  tup : ∀ m ∈ L, H m.1 = some (.tup [.str m.2.1, .ref m.2.2.1])
  num : ∀ m ∈ L, H m.2.2.1 = some (.tup (m.2.2.2.map V.int))
theorem Hands.kp {H H' : Hp} {h : Addr} {L : List HandR} (a : Hands H h L) (k : Kp H H') : Hands H' h L := ⟨k.lst a.lst, fun m hm => k.tup (a.tup m hm), fun m hm => k.tup (a.num m hm)⟩
/-- right hands -/
structure HandsOk (L : List HandR) (n : Nat) : Prop where
  one : 1 ≤ L.length
  few : L.length ≤ 8
  n1 : 1 ≤ n
  n3 : n ≤ 3
  nm : ∀ m ∈ L, nmB m.2.1 = true
  len : ∀ m ∈ L, m.2.2.2.length = n
  far : ∀ m ∈ L, ∀ x ∈ m.2.2.2, inFar x = true
  nd : (L.map fun m => m.2.1).Nodup
theorem hands_at {L : List HandR} {i : Nat} {v : V} (h : (L.map fun m => V.ref m.1)[i]? = some v) : ∃ m, L[i]? = some m ∧ m ∈ L ∧ v = .ref m.1 := by
  rw [List.getElem?_map] at h
  obtain ⟨m, hm, e⟩ := Option.map_eq_some_iff.mp h
  exact ⟨m, hm, List.mem_of_getElem? hm, e.symm⟩
theorem not_in_take {α : Type} {l : List α} (nd : l.Nodup) {i : Nat} {x : α} (h : l[i]? = some x) : x ∉ l.take i := fun hx => by
  obtain ⟨j, hj, e⟩ := List.getElem_of_mem hx
  rw [List.length_take] at hj
  obtain ⟨hi, e2⟩ := List.getElem?_eq_some_iff.mp h
  rw [List.getElem_take] at e
  have := List.pairwise_iff_getElem.mp nd j i (by omega) hi (by omega)
  exact this (e.trans e2.symm)
theorem mem_take_succ {α : Type} {l : List α} {i : Nat} {x y : α} (h : l[i]? = some x) : y ∈ l.take (i + 1) ↔ y ∈ l.take i ∨ y = x := by
  rw [List.take_add_one, h]
  simp
def spHands (Ps : List Addr) : Sp := fun vs H Q _ => ∃ h L n, vs = [.ref h] ∧ Hands H h L ∧ HandsOk L n ∧ TGs H Ps ∧ ∀ H2, Kc Ps H H2 → Q .non H2
theorem ok_check_hands {f ca Pt : Addr} {Ps : List Addr} {fd : FuncData} {t1 : Tok} (F : FnP K "check_hands" s_check_hands f fd) (hcd : fd.code = .ref ca) (TB : GxR.TabB base mg ca Pt) (iP : Pt ∈ Ps) (m_isinstance : mg "isinstance" = none) (m_list : mg "list" = none) (m_len : mg "len" = none) (m_all : mg "all" = none) (c_MOST_HANDS : mg "MOST_HANDS" = some (.int 8 t1))
    (h_is_hand : Has P w K mg base 8 "is_hand" ["thing"] (spHand Ps)) : FnOk P w K mg base CX0 13 f fd ["hands"] (spHands Ps) := by
  refine okC F sc_check_hands (fun vs H Q E h => ?_) (fun A outer s H vs Q E hr h => ?_)
  · obtain ⟨h, L, n, rfl, _⟩ := h; rfl
  obtain ⟨h, L, n, rfl, hh, ok, hT, q⟩ := h
  refine ⟨_, PSs.nox (pss_cons (ps_if (PW.pt (pw_or (pt_not (pt_val (pe_callB (call_isiE K) (by rfl) m_isinstance (by decide +kernel) (pa_cons (pv 0) (pa_cons (pe_bltn (v := .ty "list") (by rfl) m_list (by decide +kernel) rfl) pa_nil))))) (pw_or1 (pt_not (pt_chain op_le op_le pe_int (pe_callB (call_lenE K) (by rfl) m_len (by decide +kernel) (pa_cons (pv 0) pa_nil)) (pe_glob (v := .int 8) (by rfl) c_MOST_HANDS ⟨_, rfl⟩))))))
    (pss_one ps_never)
    pss_nil)
  (pss_cons (ps_if (pt_not (pt_val (pe_all (k := 8) (own := [("hand", 1)]) (g := gName 1) (hr.mono (by decide)) (by rfl) m_all TB hcd (by rfl) sc_check_hands.nd (pi_listE K (pv 0)) (blkOk_by (own := [("hand", 1)]) (N := ["hands", "hand", "name", "numbers"]) (sc := defScope s_check_hands) (by decide +kernel)) ⟨rfl, by decide +kernel, rfl⟩ (fun _ _ _ _ _ _ _ hr => (pg_name (i := 1) sc_check_hands.nd rfl (.inl rfl))) (fun _ _ _ _ _ _ _ hr => pts_nil) (fun _ _ _ _ _ _ _ hr => (pe_callH h_is_hand (hr.mono (by decide)) (by rfl) (pa_cons (pv 1) pa_nil))) (fun _ => rfl))))
    (pss_one ps_never)
    pss_nil)
  (pss_cons (ps_if (pt_cmpR op_ne (pe_callB call_lenSK (by rfl) m_len (by decide +kernel) (pa_cons (pe_scG (SO := fun D => SetK P w D (fun _ => false) 0) (r := rSAddK P w) starts_K (own := [("name", 2), ("numbers", 3)]) (g := (gTup K 2 (gCons (gName 2) (gCons (gName 3) gNil)))) (by rfl) sc_check_hands.nd (pi_listE K (pv 0)) (blkOk_by (own := [("name", 2), ("numbers", 3)]) (N := ["hands", "hand", "name", "numbers"]) (sc := defScope s_check_hands) (by decide +kernel)) (fun _ _ _ _ _ => (pg_tup rfl (pgs_cons (pg_name (i := 2) sc_check_hands.nd rfl (.inl rfl)) (pgs_cons (pg_name (i := 3) sc_check_hands.nd rfl (.inl rfl)) pgs_nil)))) (fun _ _ _ _ _ => pts_nil) (fun _ _ _ _ _ => (pv 2)) (fun _ _ _ _ _ => mt_saddK)) pa_nil)) (pe_callB (call_lenE K) (by rfl) m_len (by decide +kernel) (pa_cons (pv 0) pa_nil)) (nomark _))
    (pss_one ps_never)
    pss_nil)
  (pss_one (ps_if (pt_cmpR op_ne (pe_callB call_lenSK (by rfl) m_len (by decide +kernel) (pa_cons (pe_scG (SO := fun D => SetK P w D (fun _ => false) 0) (r := rSAddK P w) starts_K (own := [("name", 2), ("numbers", 3)]) (g := (gTup K 2 (gCons (gName 2) (gCons (gName 3) gNil)))) (by rfl) sc_check_hands.nd (pi_listE K (pv 0)) (blkOk_by (own := [("name", 2), ("numbers", 3)]) (N := ["hands", "hand", "name", "numbers"]) (sc := defScope s_check_hands) (by decide +kernel)) (fun _ _ _ _ _ => (pg_tup rfl (pgs_cons (pg_name (i := 2) sc_check_hands.nd rfl (.inl rfl)) (pgs_cons (pg_name (i := 3) sc_check_hands.nd rfl (.inl rfl)) pgs_nil)))) (fun _ _ _ _ _ => pts_nil) (fun _ _ _ _ _ => (pe_callB (call_lenE K) (by rfl) m_len (by decide +kernel) (pa_cons (pv 3) pa_nil))) (fun _ _ _ _ _ => mt_saddK)) pa_nil)) pe_int (nomark _))
    (pss_one ps_never)
    pss_nil))))), ?_⟩
  walk_at "zz"
  refine z_isi (n := "list") (k := true) (.base (.lst hh.lst)) (by decide +kernel) ?_
  walk_at "zz"
  have ll : (L.map fun m => V.ref m.1).length = L.length := List.length_map ..
  refine z_lenL (SqL.of hh.lst) ?_
  walk_at "zz"
  have o1 := ok.one
  have o8 := ok.few
  rw [ll, decide_eq_true (show (1 : Int) ≤ (L.length : Int) by omega)]
  walk_at "zz"
  rw [decide_eq_true (show (L.length : Int) ≤ 8 by omega)]
  walk_at "zz"
  refine ⟨_, rfl, h, rfl, ⟨_, SqL.of hh.lst⟩, hT _ iP, fun H2 T2 => ?_⟩
  have c2 := Kc.of_tab hT iP T2
  refine all_kc (Ps := Ps) (J := Itl K h) L.length (fun _ => true) c2.tg (fun i H3 hi k3 => ⟨_, _, SqL.of ((c2.trans k3).kp.lst hh.lst), List.getElem?_eq_getElem (by rw [ll]; exact hi)⟩) (fun H3 k3 => ⟨_, SqL.of ((c2.trans k3).kp.lst hh.lst), by rw [ll]; exact Nat.le_refl _⟩) (fun i x H3 H3' hi k3 hy Q' B hq => ?_) (fun _ H3 k3 => ?_) (fun i hi z => by cases z)
  · obtain ⟨rfl, hx⟩ := hy
    have c3 := c2.trans k3
    obtain ⟨m, hm, mem, rfl⟩ := hands_at (hx _ (SqL.of (c3.kp.lst hh.lst)))
    have h3 := hh.kp c3.kp
    have l3 := ok.len m mem
    have b1 := ok.n1
    have b3 := ok.n3
    refine ⟨rfl, ?_⟩
    walk_at "zz"
    exact ⟨_, true, rfl, .inr ⟨m.1, _, rfl, h3.tup m mem, .inr ⟨_, _, true, true, rfl, .of_nm (ok.nm m mem), nu_ints (h3.num m mem) (by omega) (by omega) (ok.far m mem), rfl⟩⟩, c3.tg, hq⟩
  · have c3 := c2.trans k3
    have h3 := hh.kp c3.kp
    walk_at "zz"
    refine z_scG ?_
    walk_at "zz"
    refine ⟨h, rfl, ⟨_, SqL.of h3.lst⟩, fun D nD => sc_list (SO := fun D => SetK P w D (fun _ => false) 0) (r := rSAddK P w) (fun i H' => Same H3 H' ∧ ∃ S, H' D = some (SetK P w D S i) ∧ ∀ k, S k = true ↔ k ∈ ((L.map fun m => m.2.1).take i).map Sum.inr) ⟨same_upd nD, fun _ => false, upd_same, fun k => by simp⟩ (fun i H' _ hp => SqL.of (hp.1 _ _ h3.lst)) ?_ ?_⟩
    · rintro i x H4 hx ⟨e4, S, hS, mS⟩
      obtain ⟨m, hm, mem, rfl⟩ := hands_at hx
      have zi : (L.map fun m => m.2.1)[i]? = some m.2.1 := by rw [List.getElem?_map, hm]; rfl
      have il : i < L.length := (List.getElem?_eq_some_iff.mp hm).1
      walk_at "zz"
      refine z_gTup (SqT.of (e4 _ _ (h3.tup m mem))) rfl ?_
      walk_at "zz"
      refine ⟨rfl, ?_⟩
      walk_at "zz"
      refine z_addK (k := .inr m.2.1) hS (by omega) fun H5 S' n' k5 h5 m5 n5 => ⟨fun b o hb => k5 b o (ne_of_none hb nD) (e4 b o hb), S', ?_, fun k => ?_⟩
      · have no : S (.inr m.2.1) = false := by
          rw [Bool.eq_false_iff]
          intro z
          obtain ⟨y, hy, ey⟩ := List.mem_map.mp ((mS _).mp z)
          cases ey
          exact not_in_take ok.nd zi hy
        rw [no] at n5
        rw [h5, n5]
        rfl
      · rw [m5, Bool.or_eq_true, decide_eq_true_eq, mS, List.mem_map, List.mem_map]
        constructor
        · rintro (⟨y, hy, rfl⟩ | rfl)
          · exact ⟨y, (mem_take_succ zi).mpr (.inl hy), rfl⟩
          · exact ⟨_, (mem_take_succ zi).mpr (.inr rfl), rfl⟩
        · rintro ⟨y, hy, rfl⟩
          rcases (mem_take_succ zi).mp hy with z | z
          · exact .inl ⟨y, z, rfl⟩
          · exact .inr (by rw [z])
    · rintro H4 ⟨e4, S, hS, mS⟩
      rw [ll] at hS
      have c4 := c3.trans (Kc.of_same c3.tg e4)
      have h4 := hh.kp c4.kp
      walk_at "zz"
      refine ⟨D, S, _, rfl, hS, ?_⟩
      walk_at "zz"
      refine z_lenL (SqL.of h4.lst) ?_
      walk_at "zz"
      rw [ll, decide_eq_true (show (L.length : Int) = (L.length : Int) from rfl)]
      walk_at "zz"
      refine z_scG ?_
      walk_at "zz"
      refine ⟨h, rfl, ⟨_, SqL.of h4.lst⟩, fun D2 nD2 => sc_list (SO := fun D => SetK P w D (fun _ => false) 0) (r := rSAddK P w) (fun i H' => Same H4 H' ∧ ∃ S, H' D2 = some (SetK P w D2 S (if i = 0 then 0 else 1)) ∧ ∀ k, S k = true ↔ (k = .inl (n : Int) ∧ i ≠ 0)) ⟨same_upd nD2, fun _ => false, upd_same, fun k => by simp⟩ (fun i H' _ hp => SqL.of (hp.1 _ _ h4.lst)) ?_ ?_⟩
      · rintro i x H5 hx ⟨e5, S, hS, mS⟩
        obtain ⟨m, hm, mem, rfl⟩ := hands_at hx
        walk_at "zz"
        refine z_gTup (SqT.of (e5 _ _ (h4.tup m mem))) rfl ?_
        walk_at "zz"
        refine ⟨rfl, ?_⟩
        walk_at "zz"
        refine z_lenT (e5 _ _ (h4.num m mem)) ?_
        rw [List.length_map, ok.len m mem]
        refine z_addK (k := .inl (n : Int)) hS (by split <;> omega) fun H6 S' n' k6 h6 m6 n6 => ⟨fun b o hb => k6 b o (ne_of_none hb nD2) (e5 b o hb), S', ?_, fun k => ?_⟩
        · rw [h6, n6]
          by_cases i0 : i = 0
          · have no : S (.inl (n : Int)) = false := by
              rw [Bool.eq_false_iff]
              intro z
              exact ((mS _).mp z).2 i0
            rw [no, if_pos i0, if_neg (show ¬ i + 1 = 0 by omega)]
            rfl
          · rw [(mS (.inl (n : Int))).mpr ⟨rfl, i0⟩, if_neg i0, if_neg (show ¬ i + 1 = 0 by omega)]
            rfl
        · rw [m6, Bool.or_eq_true, decide_eq_true_eq, mS]
          constructor
          · rintro (z | z)
            · exact ⟨z.1, by omega⟩
            · exact ⟨z, by omega⟩
          · rintro ⟨z, _⟩
            exact .inr z
      · rintro H5 ⟨e5, S, hS, mS⟩
        rw [ll, if_neg (show ¬ L.length = 0 by omega)] at hS
        walk_at "zz"
        refine ⟨D2, S, _, rfl, hS, ?_⟩
        walk_at "zz"
        exact q _ (c4.trans (Kc.of_same c4.tg e5))
theorem inV_str (z : Str) : ∀ zs : List Str, inV (.str z) (zs.map V.str) = decide (z ∈ zs)
  | [] => rfl
  | y :: zs => by
    have ih := inV_str z zs
    unfold inV at ih ⊢
    rw [List.map_cons, List.any_cons, ih]
    have e : eqV (.str y) (.str z) = decide (z = y) := by
      by_cases h : z = y
      · rw [h]; simp [eqV]
      · rw [decide_eq_false h]
        simp [eqV]
        exact fun q => h q.symm
    rw [e]
    by_cases h : z = y <;> simp [h]
theorem z_inS {H : Hp} {Q : VK} {p : Addr} {zs : List Str} {z : Str} (h : H p = some (.lst (zs.map V.str))) (q : Q (.bl (decide (z ∈ zs))) H) : rIn K false (.str z) (.ref p) H Q :=
  ⟨p, _, rfl, .inl (SqL.of h), rfl, by rw [List.all_eq_true]; intro x hx; obtain ⟨y, _, rfl⟩ := List.mem_map.mp hx; rfl, by
    rw [show (if false = true then !inV (V.str z) (zs.map V.str) else inV (V.str z) (zs.map V.str)) = decide (z ∈ zs) from inV_str z zs]
    exact q⟩
/-- a list of ties, as it stands -/
abbrev TieR := Addr × Str × Str
structure Ties (H : Hp) (t : Addr) (T : List TieR) : Prop where
  lst : H t = some (.lst (T.map fun m => .ref m.1))
  tup : ∀ m ∈ T, H m.1 = some (.tup [.str m.2.1, .str m.2.2])
theorem Ties.kp {H H' : Hp} {t : Addr} {T : List TieR} (a : Ties H t T) (k : Kp H H') : Ties H' t T := ⟨k.lst a.lst, fun m hm => k.tup (a.tup m hm)⟩
def lowS (x y : Str) : Str := if sLt y x = true then y else x
def topS2 (x y : Str) : Str := if sLt x y = true then y else x
def tk2 (x y : Str) : TKey := [.inr (lowS x y), .inr (topS2 x y)]
structure TiesOk (zs : List Str) (T : List TieR) : Prop where
  few : T.length < 60
  nm : ∀ m ∈ T, nmB m.2.1 = true ∧ nmB m.2.2 = true ∧ m.2.1 ≠ m.2.2
  mem : ∀ m ∈ T, m.2.1 ∈ zs ∧ m.2.2 ∈ zs
  nd : (T.map fun m => tk2 m.2.1 m.2.2).Nodup
theorem ties_at {T : List TieR} {i : Nat} {v : V} (h : (T.map fun m => V.ref m.1)[i]? = some v) : ∃ m, T[i]? = some m ∧ m ∈ T ∧ v = .ref m.1 := by
  rw [List.getElem?_map] at h
  obtain ⟨m, hm, e⟩ := Option.map_eq_some_iff.mp h
  exact ⟨m, hm, List.mem_of_getElem? hm, e.symm⟩
abbrev tks (T : List TieR) : List TKey := T.map fun m => tk2 m.2.1 m.2.2
def TieInv (P : Program) (w : World) (D : Addr) (T : List TieR) (H5 : Hp) (i : Nat) (H' : Hp) : Prop := Same H5 H' ∧ ∃ M : List (Addr × TKey), H' D = some (SetP P w D M) ∧ M.length = i ∧ (∀ m ∈ M, H' m.1 = some (.tup (m.2.map kV))) ∧ ∀ k, k ∈ M.map (fun m => m.2) ↔ k ∈ (tks T).take i
def spTies (Ps : List Addr) : Sp := fun vs H Q _ => ∃ t nl T zs, vs = [.ref t, .ref nl] ∧ Ties H t T ∧ H nl = some (.lst (zs.map V.str)) ∧ TiesOk zs T ∧ TGs H Ps ∧ ∀ H2, Kc Ps H H2 → Q .non H2
theorem ok_check_ties {f ca Pt : Addr} {Ps : List Addr} {fd : FuncData} (F : FnP K "check_ties" s_check_ties f fd) (hcd : fd.code = .ref ca) (TB : GxR.TabB base mg ca Pt) (iP : Pt ∈ Ps) (m_isinstance : mg "isinstance" = none) (m_list : mg "list" = none) (m_len : mg "len" = none) (m_all : mg "all" = none) (m_min : mg "min" = none) (m_max : mg "max" = none)
    (h_is_tie : Has P w K mg base 7 "is_tie" ["thing"] (spTie Ps)) : FnOk P w K mg base CX0 12 f fd ["ties", "names"] (spTies Ps) := by
  refine okC F sc_check_ties (fun vs H Q E h => ?_) (fun A outer s H vs Q E hr h => ?_)
  · obtain ⟨t, nl, T, zs, rfl, _⟩ := h; rfl
  obtain ⟨t, nl, T, zs, rfl, ht, hn, ok, hT, q⟩ := h
  refine ⟨_, PSs.nox (pss_cons (ps_if (pt_not (pt_val (pe_callB (call_isiE K) (by rfl) m_isinstance (by decide +kernel) (pa_cons (pv 0) (pa_cons (pe_bltn (v := .ty "list") (by rfl) m_list (by decide +kernel) rfl) pa_nil)))))
    (pss_one ps_never)
    pss_nil)
  (pss_cons (ps_if (pt_not (pt_val (pe_all (k := 7) (own := [("tie", 2)]) (g := gName 2) (hr.mono (by decide)) (by rfl) m_all TB hcd (by rfl) sc_check_ties.nd (pi_listE K (pv 0)) (blkOk_by (own := [("tie", 2)]) (N := ["ties", "names", "tie", "one", "other"]) (sc := defScope s_check_ties) (by decide +kernel)) ⟨rfl, by decide +kernel, rfl⟩ (fun _ _ _ _ _ _ _ hr => (pg_name (i := 2) sc_check_ties.nd rfl (.inl rfl))) (fun _ _ _ _ _ _ _ hr => pts_nil) (fun _ _ _ _ _ _ _ hr => (pe_callH h_is_tie (hr.mono (by decide)) (by rfl) (pa_cons (pv 2) pa_nil))) (fun _ => rfl))))
    (pss_one ps_never)
    pss_nil)
  (pss_cons (ps_if (pt_not (pt_val (pe_all (k := 7) (own := [("one", 3), ("other", 4)]) (g := gTup K 2 (gCons (gName 3) (gCons (gName 4) gNil))) (hr.mono (by decide)) (by rfl) m_all TB hcd (by rfl) sc_check_ties.nd (pi_listE K (pv 0)) (blkOk_by (own := [("one", 3), ("other", 4)]) (N := ["ties", "names", "tie", "one", "other"]) (sc := defScope s_check_ties) (by decide +kernel)) ⟨rfl, by decide +kernel, rfl⟩ (fun _ _ _ _ _ _ _ hr => (pg_tup rfl (pgs_cons (pg_name (i := 3) sc_check_ties.nd rfl (.inl rfl)) (pgs_cons (pg_name (i := 4) sc_check_ties.nd rfl (.inl rfl)) pgs_nil)))) (fun _ _ _ _ _ _ _ hr => pts_nil) (fun _ _ _ _ _ _ _ hr => (pe_and (pe_cmpR (op_inE K) (pv 3) (pv 1) (by rfl)) (pe_one (pe_cmpR (op_inE K) (pv 4) (pv 1) (by rfl))))) (fun _ => rfl))))
    (pss_one ps_never)
    pss_nil)
  (pss_one (ps_if (pt_cmpR op_ne (pe_callB call_lenSP (by rfl) m_len (by decide +kernel) (pa_cons (pe_scG (SO := fun D => SetP P w D []) (r := rSAddP K P w) starts_P (own := [("one", 3), ("other", 4)]) (g := (gTup K 2 (gCons (gName 3) (gCons (gName 4) gNil)))) (by rfl) sc_check_ties.nd (pi_listE K (pv 0)) (blkOk_by (own := [("one", 3), ("other", 4)]) (N := ["ties", "names", "tie", "one", "other"]) (sc := defScope s_check_ties) (by decide +kernel)) (fun _ _ _ _ _ => (pg_tup rfl (pgs_cons (pg_name (i := 3) sc_check_ties.nd rfl (.inl rfl)) (pgs_cons (pg_name (i := 4) sc_check_ties.nd rfl (.inl rfl)) pgs_nil)))) (fun _ _ _ _ _ => pts_nil) (fun _ _ _ _ _ => (pe_tup (pa_cons (pe_callB (call_minS rfl) (by rfl) m_min (by decide +kernel) (pa_cons (pv 3) (pa_cons (pv 4) pa_nil))) (pa_cons (pe_callB (call_maxS rfl) (by rfl) m_max (by decide +kernel) (pa_cons (pv 3) (pa_cons (pv 4) pa_nil))) pa_nil)))) (fun _ _ _ _ _ => mt_saddP hr.units)) pa_nil)) (pe_callB (call_lenE K) (by rfl) m_len (by decide +kernel) (pa_cons (pv 0) pa_nil)) (nomark _))
    (pss_one ps_never)
    pss_nil))))), ?_⟩
  walk_at "zz"
  refine z_isi (n := "list") (k := true) (.base (.lst ht.lst)) (by decide +kernel) ?_
  walk_at "zz"
  have ll : (T.map fun m => V.ref m.1).length = T.length := List.length_map ..
  have few := ok.few
  refine ⟨_, rfl, t, rfl, ⟨_, SqL.of ht.lst⟩, hT _ iP, fun H2 T2 => ?_⟩
  have c2 := Kc.of_tab hT iP T2
  refine all_kc (Ps := Ps) (J := Itl K t) T.length (fun _ => true) c2.tg (fun i H3 hi k3 => ⟨_, _, SqL.of ((c2.trans k3).kp.lst ht.lst), List.getElem?_eq_getElem (by rw [ll]; exact hi)⟩) (fun H3 k3 => ⟨_, SqL.of ((c2.trans k3).kp.lst ht.lst), by rw [ll]; exact Nat.le_refl _⟩) (fun i x H3 H3' hi k3 hy Q' B hq => ?_) (fun _ H3 k3 => ?_) (fun i hi z => by cases z)
  · obtain ⟨rfl, hx⟩ := hy
    have c3 := c2.trans k3
    obtain ⟨m, hm, mem, rfl⟩ := ties_at (hx _ (SqL.of (c3.kp.lst ht.lst)))
    obtain ⟨n1, n2, ne⟩ := ok.nm m mem
    refine ⟨rfl, ?_⟩
    walk_at "zz"
    exact ⟨_, true, rfl, .inr ⟨m.1, _, rfl, (ht.kp c3.kp).tup m mem, .inr ⟨_, _, rfl, true, true, .of_nm n1, .of_nm n2, .inr ⟨_, _, rfl, rfl, rfl, rfl, by rw [decide_eq_false ne]; rfl⟩⟩⟩, c3.tg, hq⟩
  · have c3 := c2.trans k3
    have h3 := ht.kp c3.kp
    walk_at "zz"
    refine ⟨_, rfl, t, rfl, ⟨_, SqL.of h3.lst⟩, c3.tg _ iP, fun H4 T4 => ?_⟩
    have c4 := c3.trans (Kc.of_tab c3.tg iP T4)
    refine all_kc (Ps := Ps) (J := Itl K t) T.length (fun _ => true) c4.tg (fun i H5 hi k5 => ⟨_, _, SqL.of ((c4.trans k5).kp.lst ht.lst), List.getElem?_eq_getElem (by rw [ll]; exact hi)⟩) (fun H5 k5 => ⟨_, SqL.of ((c4.trans k5).kp.lst ht.lst), by rw [ll]; exact Nat.le_refl _⟩) (fun i x H5 H5' hi k5 hy Q' B hq => ?_) (fun _ H5 k5 => ?_) (fun i hi z => by cases z)
    · obtain ⟨rfl, hx⟩ := hy
      have c5 := c4.trans k5
      obtain ⟨m, hm, mem, rfl⟩ := ties_at (hx _ (SqL.of (c5.kp.lst ht.lst)))
      obtain ⟨i1, i2⟩ := ok.mem m mem
      refine z_gTup (SqT.of ((ht.kp c5.kp).tup m mem)) rfl ?_
      walk_at "zz"
      refine ⟨rfl, ?_⟩
      walk_at "zz"
      refine z_inS (c5.kp.lst hn) ?_
      rw [decide_eq_true i1]
      walk_at "zz"
      refine z_inS (c5.kp.lst hn) ?_
      rw [decide_eq_true i2]
      exact hq _ (Kc.refl c5.tg)
    · have c5 := c4.trans k5
      have h5 := ht.kp c5.kp
      walk_at "zz"
      refine z_scG ?_
      walk_at "zz"
      refine ⟨t, rfl, ⟨_, SqL.of h5.lst⟩, fun D nD => sc_list (SO := fun D => SetP P w D []) (r := rSAddP K P w) (TieInv P w D T H5) ⟨same_upd nD, [], upd_same, rfl, fun m hm => absurd hm (by simp), fun k => by simp⟩ (fun i H' _ hp => SqL.of (hp.1 _ _ h5.lst)) ?_ ?_⟩
      · rintro i x H6 hx ⟨e6, M, hM, lM, tM, mM⟩
        obtain ⟨m, hm, mem, rfl⟩ := ties_at hx
        have zi : (tks T)[i]? = some (tk2 m.2.1 m.2.2) := by rw [List.getElem?_map, hm]; rfl
        have il : i < T.length := (List.getElem?_eq_some_iff.mp hm).1
        walk_at "zz"
        refine z_gTup (SqT.of (e6 _ _ (h5.tup m mem))) rfl ?_
        walk_at "zz"
        refine ⟨rfl, ?_⟩
        walk_at "zz"
        refine z_minS ?_
        walk_at "zz"
        refine z_maxS ?_
        walk_at "zz"
        refine z_new (by simp) (fun p7 H7 n7 e7 h7 => ?_)
        have h7' : H7 p7 = some (.tup ((tk2 m.2.1 m.2.2).map kV)) := h7
        have nm : tk2 m.2.1 m.2.2 ∉ M.map (fun m => m.2) := fun z => not_in_take ok.nd zi ((mM _).mp z)
        refine z_addP (k := tk2 m.2.1 m.2.2) (e7 _ _ hM) (SqT.of h7') (fun a ha => SqT.of (e7 _ _ (tM a ha))) (by omega) fun H8 L2 k8 h8 _ l8 => ?_
        have el := l8 nm
        subst el
        refine ⟨fun b o hb => k8 b o (ne_of_none hb nD) (e7 _ _ (e6 b o hb)), _, h8, by rw [List.length_cons, lM], fun a ha => ?_, fun k => ?_⟩
        · have ne : ∀ {b : Addr} {xs : List V}, H7 b = some (.tup xs) → b ≠ D := fun hb z => by
            rw [z, e7 _ _ hM] at hb
            cases hb
          rcases List.mem_cons.mp ha with rfl | ha
          · exact k8 _ _ (ne h7') h7'
          · exact k8 _ _ (ne (e7 _ _ (tM a ha))) (e7 _ _ (tM a ha))
        · rw [List.map_cons, List.mem_cons, mM, mem_take_succ zi]
          exact Or.comm
      · rintro H6 ⟨e6, M, hM, lM, tM, mM⟩
        rw [ll] at lM
        have c6 := c5.trans (Kc.of_same c5.tg e6)
        walk_at "zz"
        refine ⟨D, M, rfl, hM, ?_⟩
        walk_at "zz"
        refine z_lenL (SqL.of (ht.kp c6.kp).lst) ?_
        walk_at "zz"
        rw [ll, lM, decide_eq_true (show (T.length : Int) = (T.length : Int) from rfl)]
        walk_at "zz"
        exact q _ c6
/-- a right web, as it stands -/
structure Web (H : Hp) (p : Addr) (L : List HandR) (T : List TieR) : Prop where
  ex : ∃ h t, H p = some (.tup [.ref h, .ref t]) ∧ Hands H h L ∧ Ties H t T
theorem Web.kp {H H' : Hp} {p : Addr} {L : List HandR} {T : List TieR} (a : Web H p L T) (k : Kp H H') : Web H' p L T := by
  obtain ⟨h, t, hp, hh, ht⟩ := a.ex
  exact ⟨h, t, k.tup hp, hh.kp k, ht.kp k⟩
abbrev nmsOf (L : List HandR) : List Str := L.map fun m => m.2.1
def spWeb (Ps : List Addr) : Sp := fun vs H Q _ => ∃ p L T n, vs = [.ref p] ∧ Web H p L T ∧ HandsOk L n ∧ TiesOk (nmsOf L) T ∧ TGs H Ps ∧ ∀ H2, Kc Ps H H2 → Q .non H2
theorem ok_check_web {f : Addr} {Ps : List Addr} {fd : FuncData} (F : FnP K "check_web" s_check_web f fd) (m_isinstance : mg "isinstance" = none) (m_tuple : mg "tuple" = none) (m_len : mg "len" = none)
    (h_check_hands : Has P w K mg base 13 "check_hands" ["hands"] (spHands Ps)) (h_check_ties : Has P w K mg base 12 "check_ties" ["ties", "names"] (spTies Ps)) : FnOk P w K mg base CX0 14 f fd ["web"] (spWeb Ps) := by
  refine F.ok sc_check_web (fun vs H Q E h => ?_) (fun cdv A outer s H vs Q E hr h => ?_)
  · obtain ⟨p, L, T, n, rfl, _⟩ := h; rfl
  obtain ⟨p, L, T, n, rfl, wb, okH, okT, hT, q⟩ := h
  obtain ⟨h, t, hp, hh, ht⟩ := wb.ex
  refine ⟨_, PSs.nox (pss_cons (ps_if (PW.pt (pw_or (pt_not (pt_val (pe_callB (call_isiE K) (by rfl) m_isinstance (by decide +kernel) (pa_cons (pv 0) (pa_cons (pe_bltn (v := .ty "tuple") (by rfl) m_tuple (by decide +kernel) rfl) pa_nil))))) (pw_or1 (pt_cmpR op_ne (pe_callB (call_lenE K) (by rfl) m_len (by decide +kernel) (pa_cons (pv 0) pa_nil)) pe_int (nomark _)))))
    (pss_one ps_never)
    pss_nil)
  (pss_cons (ps_asg (pv 0) (pg_tup rfl (pgs_cons (pg_name (i := 1) sc_check_web.nd rfl (.inl rfl)) (pgs_cons (pg_name (i := 2) sc_check_web.nd rfl (.inl rfl)) pgs_nil))))
  (pss_cons (ps_expr (pe_callH h_check_hands (hr.mono (by decide)) (by rfl) (pa_cons (pv 1) pa_nil)))
  (pss_one (ps_expr (pe_callH h_check_ties (hr.mono (by decide)) (by rfl) (pa_cons (pv 2) (pa_cons (pe_lc (own := [("name", 3), ("numbers", 4)]) (g := (gTup K 2 (gCons (gName 3) (gCons (gName 4) gNil)))) (by rfl) sc_check_web.nd (pi_listE K (pv 1)) (blkOk_by (own := [("name", 3), ("numbers", 4)]) (N := ["web", "hands", "ties", "name", "numbers"]) (sc := defScope s_check_web) (by decide +kernel)) (fun _ _ _ _ _ => (pg_tup rfl (pgs_cons (pg_name (i := 3) sc_check_web.nd rfl (.inl rfl)) (pgs_cons (pg_name (i := 4) sc_check_web.nd rfl (.inl rfl)) pgs_nil)))) (fun _ _ _ _ _ => pts_nil) (fun _ _ _ _ _ => (pv 3))) pa_nil)))))))), ?_⟩
  walk_at "zz"
  refine z_isi (n := "tuple") (k := true) (.base (.tup hp)) (by decide +kernel) ?_
  walk_at "zz"
  refine z_lenT hp ?_
  walk_at "zz"
  refine z_gTup (SqT.of hp) rfl ?_
  walk_at "zz"
  refine ⟨h, L, n, rfl, hh, okH, hT, fun H2 c2 => ?_⟩
  have hh2 := hh.kp c2.kp
  walk_at "zz"
  show iList K _ _ _ _
  walk_at "zz"
  refine ⟨h, rfl, ⟨_, SqL.of hh2.lst⟩, fun D nD => lc_list (fun i H' => Same H2 H' ∧ H' D = some (.lst (((nmsOf L).take i).map V.str))) ⟨same_upd nD, upd_same⟩ (fun i H' _ hp => SqL.of (hp.1 _ _ hh2.lst)) ?_ ?_⟩
  · rintro i x H3 hx ⟨e3, hD⟩
    obtain ⟨m, hm, mem, rfl⟩ := hands_at hx
    have zi : (nmsOf L)[i]? = some m.2.1 := by rw [List.getElem?_map, hm]; rfl
    have few := okH.few
    walk_at "zz"
    refine z_gTup (SqT.of (e3 _ _ (hh2.tup m mem))) rfl ?_
    walk_at "zz"
    refine ⟨rfl, ?_⟩
    walk_at "zz"
    refine ⟨_, hD, small1000 (by rw [List.length_map, List.length_take, List.length_map]; omega), fun b o hb => by rw [upd_ne (ne_of_none hb nD)]; exact e3 _ _ hb, ?_⟩
    rw [upd_same, List.take_add_one, zi, List.map_append]
    rfl
  · rintro H3 ⟨e3, hD⟩
    have c3 := c2.trans (Kc.of_same c2.tg e3)
    have et : (nmsOf L).take (L.map fun m => V.ref m.1).length = nmsOf L := List.take_of_length_le (by rw [List.length_map, List.length_map]; exact Nat.le_refl _)
    rw [et] at hD
    walk_at "zz"
    refine ⟨t, D, T, nmsOf L, rfl, ht.kp c3.kp, hD, okT, c3.tg, fun H4 c4 => ?_⟩
    walk_at "zz"
    exact q _ (c3.trans c4)
/-- y is tied to z -/
def Adj (T : List TieR) (z y : Str) : Prop := ∃ m ∈ T, (m.2.2 = z ∧ m.2.1 = y) ∨ (m.2.1 = z ∧ m.2.2 = y)
theorem Adj.symm {T : List TieR} {z y : Str} (h : Adj T z y) : Adj T y z := by
  obtain ⟨m, mm, h | h⟩ := h
  · exact ⟨m, mm, .inr ⟨h.2, h.1⟩⟩
  · exact ⟨m, mm, .inl ⟨h.2, h.1⟩⟩
def fA (z : Str) (m : TieR) : Option Str := if m.2.2 = z then some m.2.1 else none
def fB (z : Str) (m : TieR) : Option Str := if m.2.1 = z then some m.2.2 else none
theorem adj_lists (T : List TieR) (z y : Str) : y ∈ T.filterMap (fA z) ++ T.filterMap (fB z) ↔ Adj T z y := by
  rw [List.mem_append, List.mem_filterMap, List.mem_filterMap]
  constructor
  · rintro (⟨m, mm, e⟩ | ⟨m, mm, e⟩)
    · unfold fA at e
      split at e
      · rename_i h
        cases e
        exact ⟨m, mm, .inl ⟨h, rfl⟩⟩
      · cases e
    · unfold fB at e
      split at e
      · rename_i h
        cases e
        exact ⟨m, mm, .inr ⟨h, rfl⟩⟩
      · cases e
  · rintro ⟨m, mm, h | h⟩
    · exact .inl ⟨m, mm, by unfold fA; rw [if_pos h.1, h.2]⟩
    · exact .inr ⟨m, mm, by unfold fB; rw [if_pos h.1, h.2]⟩
theorem adj_len (z : Str) : ∀ T : List TieR, (∀ m ∈ T, m.2.1 ≠ m.2.2) → (T.filterMap (fA z)).length + (T.filterMap (fB z)).length ≤ T.length
  | [], _ => Nat.le_refl _
  | m :: T, h => by
    have ih := adj_len z T fun x hx => h x (List.mem_cons_of_mem _ hx)
    have ne := h m (by simp)
    rw [List.filterMap_cons, List.filterMap_cons]
    unfold fA fB at ih ⊢
    by_cases h1 : m.2.2 = z
    · have h2 : ¬ m.2.1 = z := fun q => ne (q.trans h1.symm)
      simp only [h1, h2, if_true, if_false, List.length_cons]
      omega
    · by_cases h2 : m.2.1 = z
      · simp only [h1, h2, if_true, if_false, List.length_cons]
        omega
      · simp only [h1, h2, if_false, List.length_cons]
        omega
theorem fm_snoc {T : List TieR} {i : Nat} {m : TieR} (hm : T[i]? = some m) (f : TieR → Option Str) : (T.take (i + 1)).filterMap f = (T.take i).filterMap f ++ [m].filterMap f := by
  rw [List.take_add_one, hm, List.filterMap_append]
  rfl
def spTied : Sp := fun vs H Q _ => ∃ (z : Str) (t : Addr) (T : List TieR), vs = [.str z, .ref t] ∧ Ties H t T ∧ T.length < 60 ∧ (∀ m ∈ T, m.2.1 ≠ m.2.2) ∧ ∀ (p : Addr) (ys : List Str) (H' : Hp), H p = none → Same H H' → H' p = some (.lst (ys.map V.str)) → (∀ y, y ∈ ys ↔ Adj T z y) → Q (.ref p) H'
theorem ok_tied_to {f : Addr} {fd : FuncData} (F : FnP K "tied_to" s_tied_to f fd) (m_sorted : mg "sorted" = none) : FnOk P w K mg base CX0 1 f fd ["name", "ties"] spTied := by
  refine F.ok sc_tied_to (fun vs H Q E h => ?_) (fun cdv A outer s H vs Q E hr h => ?_)
  · obtain ⟨z, t, T, rfl, _⟩ := h; rfl
  obtain ⟨z, t, T, rfl, ht, few, ne, q⟩ := h
  refine ⟨_, PSs.nox (pss_cons (ps_setLc (i := 2) (own := [("one", 4), ("other", 5)]) (g := (gTup K 2 (gCons (gName 4) (gCons (gName 5) gNil)))) (by rfl) sc_tied_to.nd rfl rfl (sw_true rfl rfl rfl (by decide +kernel)) (pi_listE K (pv 1)) (blkOk_by (own := [("one", 4), ("other", 5)]) (N := ["name", "ties", "ahead", "behind", "one", "other"]) (sc := defScope s_tied_to) (by decide +kernel)) (fun _ _ _ _ _ => (pg_tup rfl (pgs_cons (pg_name (i := 4) sc_tied_to.nd rfl (.inl rfl)) (pgs_cons (pg_name (i := 5) sc_tied_to.nd rfl (.inl rfl)) pgs_nil)))) (fun _ _ _ _ _ => (pts_one (pt_cmpR op_eq (pv 5) (pv 0) (nomark _)))) (fun _ _ _ _ _ => (pv 4)))
  (pss_cons (ps_setLc (i := 3) (own := [("one", 4), ("other", 5)]) (g := (gTup K 2 (gCons (gName 4) (gCons (gName 5) gNil)))) (by rfl) sc_tied_to.nd rfl rfl (sw_true rfl rfl rfl (by decide +kernel)) (pi_listE K (pv 1)) (blkOk_by (own := [("one", 4), ("other", 5)]) (N := ["name", "ties", "ahead", "behind", "one", "other"]) (sc := defScope s_tied_to) (by decide +kernel)) (fun _ _ _ _ _ => (pg_tup rfl (pgs_cons (pg_name (i := 4) sc_tied_to.nd rfl (.inl rfl)) (pgs_cons (pg_name (i := 5) sc_tied_to.nd rfl (.inl rfl)) pgs_nil)))) (fun _ _ _ _ _ => (pts_one (pt_cmpR op_eq (pv 4) (pv 0) (nomark _)))) (fun _ _ _ _ _ => (pv 5)))
  (pss_one (ps_ret (pe_callB cr_sortedS (by rfl) m_sorted (by decide +kernel) (pa_cons (pe_op op_cat (pv 2) (pv 3)) pa_nil)))))), ?_⟩
  walk_at "zz"
  show iList K _ _ _ _
  walk_at "zz"
  have len := adj_len z T ne
  refine ⟨t, rfl, ⟨_, SqL.of ht.lst⟩, fun D nD => lc_list (xs := T.map fun m => V.ref m.1) (fun i H' => Same H H' ∧ H' D = some (.lst (((T.take i).filterMap (fA z)).map V.str))) ⟨same_upd nD, upd_same⟩ (fun i H' _ hp => SqL.of (hp.1 _ _ ht.lst)) ?_ ?_⟩
  · rintro i x H1 hx ⟨e1, hD⟩
    obtain ⟨m, hm, mem, rfl⟩ := ties_at hx
    have il : i < T.length := (List.getElem?_eq_some_iff.mp hm).1
    have bd : ((T.take i).filterMap (fA z)).length ≤ i := Nat.le_trans (List.length_filterMap_le ..) (by rw [List.length_take]; omega)
    walk_at "zz"
    refine z_gTup (SqT.of (e1 _ _ (ht.tup m mem))) rfl ?_
    walk_at "zz"
    refine ⟨rfl, ?_⟩
    walk_at "zz"
    refine z_eqS ?_
    walk_at "zz"
    refine z_ite (fun h => ?_) (fun h => ?_)
    · walk_at "zz"
      refine ⟨_, hD, small1000 (by rw [List.length_map]; omega), fun b o hb => by rw [upd_ne (ne_of_none hb nD)]; exact e1 _ _ hb, ?_⟩
      rw [upd_same, fm_snoc hm, List.map_append]
      have e : [m].filterMap (fA z) = [m.2.1] := by simp [fA, h]
      rw [e]
      rfl
    · refine ⟨e1, ?_⟩
      rw [fm_snoc hm]
      have e : [m].filterMap (fA z) = [] := by simp [fA, h]
      rw [e, List.append_nil]
      exact hD
  · rintro H1 ⟨e1, hD1⟩
    rw [List.length_map, List.take_of_length_le (Nat.le_refl _)] at hD1
    walk_at "zz"
    show iList K _ _ _ _
    walk_at "zz"
    have ht1 := ht.kp (Kp.of_same e1)
    refine ⟨t, rfl, ⟨_, SqL.of ht1.lst⟩, fun D2 nD2 => lc_list (xs := T.map fun m => V.ref m.1) (fun i H' => Same H1 H' ∧ H' D2 = some (.lst (((T.take i).filterMap (fB z)).map V.str))) ⟨same_upd nD2, upd_same⟩ (fun i H' _ hp => SqL.of (hp.1 _ _ ht1.lst)) ?_ ?_⟩
    · rintro i x H2 hx ⟨e2, hD⟩
      obtain ⟨m, hm, mem, rfl⟩ := ties_at hx
      have il : i < T.length := (List.getElem?_eq_some_iff.mp hm).1
      have bd : ((T.take i).filterMap (fB z)).length ≤ i := Nat.le_trans (List.length_filterMap_le ..) (by rw [List.length_take]; omega)
      walk_at "zz"
      refine z_gTup (SqT.of (e2 _ _ (ht1.tup m mem))) rfl ?_
      walk_at "zz"
      refine ⟨rfl, ?_⟩
      walk_at "zz"
      refine z_eqS ?_
      walk_at "zz"
      refine z_ite (fun h => ?_) (fun h => ?_)
      · walk_at "zz"
        refine ⟨_, hD, small1000 (by rw [List.length_map]; omega), fun b o hb => by rw [upd_ne (ne_of_none hb nD2)]; exact e2 _ _ hb, ?_⟩
        rw [upd_same, fm_snoc hm, List.map_append]
        have e : [m].filterMap (fB z) = [m.2.2] := by simp [fB, h]
        rw [e]
        rfl
      · refine ⟨e2, ?_⟩
        rw [fm_snoc hm]
        have e : [m].filterMap (fB z) = [] := by simp [fB, h]
        rw [e, List.append_nil]
        exact hD
    · rintro H2 ⟨e2, hD2⟩
      rw [List.length_map, List.take_of_length_le (Nat.le_refl _)] at hD2
      walk_at "zz"
      refine z_cat (e2 _ _ hD1) hD2 (by rw [List.length_map, List.length_map]; omega) (fun l3 H3 n3 e3 h3 => ?_)
      rw [← List.map_append] at h3
      have e13 := e1.trans (e2.trans e3)
      walk_at "zz"
      refine ⟨l3, _, rfl, SqL.of h3, by rw [List.length_append]; omega, fun ys p pm _ np => ?_⟩
      refine q p ys _ ?_ (e13.trans (same_upd np)) upd_same fun y => by rw [pm.mem_iff]; exact adj_lists T z y
      cases e : H p with
      | none => rfl
      | some o => rw [e13 _ _ e] at np; cases np
/-- names come to from z0 on, by what each names -/
structure Led (nb : Str → Str → Prop) (z0 : Str) (fs : List Str) : Prop where
  nd : fs.Nodup
  first : z0 ∈ fs
  closed : ∀ z ∈ fs, ∀ y, nb z y → y ∈ fs
  least : ∀ S : Str → Prop, S z0 → (∀ z y, S z → nb z y → S y) → ∀ z ∈ fs, S z
/-- a dict that tells of each name a list of those named -/
structure Named (H : Hp) (d : Addr) (zs : List Str) (nb : Str → Str → Prop) : Prop where
  ex : ∃ kvs, H d = some (.dK kvs) ∧ ∀ z ∈ zs, ∃ (p : Addr) (ys : List Str), valV kvs (.inr z) = some (.ref p) ∧ H p = some (.lst (ys.map V.str)) ∧ ∀ y, y ∈ ys ↔ nb z y
theorem nodup_sub_len : ∀ {l m : List Str}, l.Nodup → (∀ x ∈ l, x ∈ m) → l.length ≤ m.length
  | [], _, _, _ => Nat.zero_le _
  | x :: l, m, nd, h => by
    have hx := h x (by simp)
    obtain ⟨n1, n2⟩ := List.nodup_cons.mp nd
    have ih := nodup_sub_len (l := l) (m := m.erase x) n2 fun y hy => by
      have : y ≠ x := fun e => n1 (e ▸ hy)
      exact (List.mem_erase_of_ne this).mpr (h y (List.mem_cons_of_mem _ hy))
    rw [List.length_erase_of_mem hx] at ih
    have := List.length_pos_of_mem hx
    rw [List.length_cons]
    omega
theorem nodup_snoc {l : List Str} {x : Str} (nd : l.Nodup) (h : x ∉ l) : (l ++ [x]).Nodup := List.nodup_append.mpr ⟨nd, by simp, fun a ha b hb e => h (by rw [← List.mem_singleton.mp hb, ← e]; exact ha)⟩
theorem z_notInS {H : Hp} {Q : VK} {p : Addr} {zs : List Str} {z : Str} (h : H p = some (.lst (zs.map V.str))) (q : Q (.bl (!decide (z ∈ zs))) H) : rIn K true (.str z) (.ref p) H Q :=
  ⟨p, _, rfl, .inl (SqL.of h), rfl, by rw [List.all_eq_true]; intro x hx; obtain ⟨y, _, rfl⟩ := List.mem_map.mp hx; rfl, by
    rw [show (if true = true then !inV (V.str z) (zs.map V.str) else inV (V.str z) (zs.map V.str)) = !decide (z ∈ zs) from congrArg (!·) (inV_str z zs)]
    exact q⟩
def spLed : Sp := fun vs H Q _ => ∃ (z0 : Str) (d : Addr) (zs : List Str) (nb : Str → Str → Prop), vs = [.str z0, .ref d] ∧ Named H d zs nb ∧ z0 ∈ zs ∧ zs.length ≤ 8 ∧ (∀ z ∈ zs, ∀ y, nb z y → y ∈ zs) ∧ ∀ (p : Addr) (fs : List Str) (H' : Hp), H p = none → Same H H' → H' p = some (.lst (fs.map V.str)) → Led nb z0 fs → (∀ z ∈ fs, z ∈ zs) → Q (.ref p) H'
/-- what is so between two steps: the first n of fs are done -/
structure LInv (nb : Str → Str → Prop) (z0 : Str) (zs fs : List Str) (n : Nat) : Prop where
  nd : fs.Nodup
  first : z0 ∈ fs
  sub : ∀ z ∈ fs, z ∈ zs
  done : ∀ z ∈ fs.take n, ∀ y, nb z y → y ∈ fs
  least : ∀ S : Str → Prop, S z0 → (∀ z y, S z → nb z y → S y) → ∀ z ∈ fs, S z
theorem ok_led_to {f : Addr} {fd : FuncData} (F : FnP K "led_to" s_led_to f fd) (m_len : mg "len" = none) : FnOk P w K mg base CX0 1 f fd ["name", "named"] spLed := by
  refine F.ok sc_led_to (fun vs H Q E h => ?_) (fun cdv A outer s H vs Q E hr h => ?_)
  · obtain ⟨z0, d, zs, nb, rfl, _⟩ := h; rfl
  obtain ⟨z0, d, zs, nb, rfl, nm, i0, h8, cl, q⟩ := h
  obtain ⟨kvs, hd, each⟩ := nm.ex
  refine ⟨_, PSs.nox (pss_cons (ps_set (i := 2) sc_led_to.nd rfl (.inl rfl) (pe_lst (pa_cons (pv 0) pa_nil)))
  (pss_cons (ps_set (i := 3) sc_led_to.nd rfl (.inl rfl) pe_int)
  (pss_cons (ps_while PassesOwn.never (pt_cmpR op_lt (pv 3) (pe_callB (call_lenE K) (by rfl) m_len (by decide +kernel) (pa_cons (pv 2) pa_nil)) (nomark _))
    (pss_cons (ps_set (i := 4) sc_led_to.nd rfl (.inl rfl) (pe_ix (ix_listE K) (pv 2) (pv 3) (fun _ _ => rfl)))
  (pss_cons (ps_for PassesOwn.never rfl (pi_listE K (pe_dget2 (hu_of hr) (pv 1) (pv 4) (pe_tup pa_nil) ⟨rfl, rfl, rfl, rfl⟩)) (pg_name (i := 5) sc_led_to.nd rfl (.inl rfl))
    (pss_one (ps_if (pt_cmpR (op_notInE K) (pv 5) (pv 2) (by rfl))
    (pss_one (ps_expr (pe_bm PySem.F.plainAttrs_list PySem.F.slot_list_append PySem.F.type_list_append mt_append (pv 2) (pa_cons (pv 5) pa_nil))))
    pss_nil)))
  (pss_one (ps_aug (i := 3) sc_led_to.nd rfl (.inl rfl) pe_int ip_add)))))
  (pss_one (ps_ret (pv 2)))))), ?_⟩
  walk_at "zz"
  refine z_new (by simp) (fun l H1 n1 e1 h1 => ?_)
  have dl : d ≠ l := ne_of_none hd n1
  walk_at "zz"
  refine while_by (fun σ H' => ∃ (n : Nat) (fs : List Str) (y4 y5 : Option V), σ = [some (.str z0), some (.ref d), some (.ref l), some (.int (n : Int)), y4, y5] ∧ (∀ b o, b ≠ l → H b = some o → H' b = some o) ∧ H' l = some (.lst (fs.map V.str)) ∧ n ≤ fs.length ∧ LInv nb z0 zs fs n)
    (fun σ _ => match σ with | [_, _, _, some (.int n), _, _] => 9 - n.toNat | _ => 0) ⟨0, [z0], _, _, rfl, fun b o _ hb => e1 _ _ hb, h1, Nat.zero_le _, by simp, by simp, fun z hz => by rw [List.mem_singleton.mp hz]; exact i0, fun z hz => absurd hz (by simp), fun S s0 _ z hz => by rw [List.mem_singleton.mp hz]; exact s0⟩ ?_ ?_
  · rintro σ H2 ⟨n, fs, y4, y5, rfl, k2, h2, hn, iv⟩
    have fl : fs.length ≤ 8 := Nat.le_trans (nodup_sub_len iv.nd iv.sub) h8
    walk_at "zz"
    refine z_lenL (SqL.of h2) ?_
    walk_at "zz"
    rw [List.length_map]
    refine z_ite (fun h => ?_) (fun h => ?_)
    · have lt : n < fs.length := by omega
      obtain ⟨z, hz⟩ : ∃ z, fs[n]? = some z := ⟨_, List.getElem?_eq_getElem lt⟩
      have zf := List.mem_of_getElem? hz
      obtain ⟨p, ys, hv, hp, my⟩ := each z (iv.sub z zf)
      have pl : p ≠ l := ne_of_none hp n1
      walk_at "zz"
      refine z_ixL (SqL.of h2) (at_of (j := n) rfl (by rw [List.getElem?_map, hz]; rfl)) ?_
      walk_at "zz"
      have hd2 := k2 _ _ dl hd
      refine ⟨_, rfl, d, rfl, .inl ⟨kvs, .inl hd2⟩, _, rfl, ?_⟩
      walk_at "zz"
      refine z_new (by simp) (fun p3 H3 n3 e3 h3 => ?_)
      refine ⟨_, DGet.k (k := .inr z) (e3 _ _ hd2), ?_⟩
      rw [hv]
      have hp3 := e3 _ _ (k2 _ _ pl hp)
      refine ⟨p, rfl, ⟨_, SqL.of hp3⟩, for_list (xs := ys.map V.str) (fun i σ H' => ∃ (fs' : List Str) (y5 : Option V), σ = [some (.str z0), some (.ref d), some (.ref l), some (.int (n : Int)), some (.str z), y5] ∧ (∀ b o, b ≠ l → H b = some o → H' b = some o) ∧ H' l = some (.lst (fs'.map V.str)) ∧ (∃ more, fs' = fs ++ more) ∧ LInv nb z0 zs fs' n ∧ ∀ y ∈ ys.take i, y ∈ fs') ⟨fs, _, rfl, fun b o nb hb => e3 _ _ (k2 b o nb hb), e3 _ _ h2, ⟨[], by simp⟩, iv, fun y hy => absurd hy (by simp)⟩ (fun i σ H' _ h => by
        obtain ⟨fs', y5, _, k', _⟩ := h
        exact SqL.of (k' _ _ pl hp)) ?_ ?_⟩
      · rintro i x σ H4 hx ⟨fs', y5, rfl, k4, h4, ⟨more, em⟩, iv4, dn4⟩
        rw [List.getElem?_map] at hx
        obtain ⟨y, hy, rfl⟩ := Option.map_eq_some_iff.mp hx
        have nby : nb z y := (my y).mp (List.mem_of_getElem? hy)
        have fl4 : fs'.length ≤ 8 := Nat.le_trans (nodup_sub_len iv4.nd iv4.sub) h8
        have zf4 : z ∈ fs' := by rw [em]; exact List.mem_append_left _ zf
        have tk : ∀ u, u ∈ ys.take (i + 1) ↔ u ∈ ys.take i ∨ u = y := fun u => by rw [List.take_add_one, hy]; simp
        walk_at "zz"
        refine z_notInS h4 ?_
        walk_at "zz"
        refine z_nite (fun h => ?_) (fun h => ?_)
        · walk_at "zz"
          refine ⟨.inl ⟨rfl, _, SqL.of h4⟩, ?_⟩
          walk_at "zz"
          refine ⟨l, _, _, rfl, rfl, h4, small1000 (by rw [List.length_map]; omega), fs' ++ [y], _, rfl, fun b o nb hb => by rw [upd_ne nb]; exact k4 b o nb hb, by rw [upd_same, List.map_append]; rfl, ⟨more ++ [y], by rw [em, List.append_assoc]⟩, ⟨nodup_snoc iv4.nd h, List.mem_append_left _ iv4.first, fun u hu => ?_, fun u hu v hv => ?_, fun S s0 st u hu => ?_⟩, fun u hu => ?_⟩
          · rcases List.mem_append.mp hu with hu | hu
            · exact iv4.sub u hu
            · rw [List.mem_singleton.mp hu]; exact cl z (iv.sub z zf) y nby
          · have nl : n ≤ fs'.length := by rw [em, List.length_append]; omega
            rw [List.take_append_of_le_length nl] at hu
            exact List.mem_append_left _ (iv4.done u hu v hv)
          · rcases List.mem_append.mp hu with hu | hu
            · exact iv4.least S s0 st u hu
            · rw [List.mem_singleton.mp hu]; exact st z y (iv4.least S s0 st z zf4) nby
          · rcases (tk u).mp hu with hu | hu
            · exact List.mem_append_left _ (dn4 u hu)
            · rw [hu]; exact List.mem_append_right _ (by simp)
        · walk_at "zz"
          exact ⟨fs', _, rfl, k4, h4, ⟨more, em⟩, iv4, fun u hu => by
            rcases (tk u).mp hu with hu | hu
            · exact dn4 u hu
            · rw [hu]; exact h⟩
      · rintro σ H4 ⟨fs', y5, rfl, k4, h4, ⟨more, em⟩, iv4, dn4⟩
        rw [List.length_map, List.take_of_length_le (Nat.le_refl _)] at dn4
        refine ⟨_, rfl, n, 1, rfl, rfl, ?_⟩
        have hz' : fs'[n]? = some z := by rw [em, List.getElem?_append_left lt]; exact hz
        refine ⟨⟨n + 1, fs', _, _, rfl, k4, h4, by rw [em, List.length_append]; omega, iv4.nd, iv4.first, iv4.sub, fun u hu v hv => ?_, iv4.least⟩, ?_⟩
        · rw [List.take_add_one, hz'] at hu
          rcases List.mem_append.mp hu with hu | hu
          · exact iv4.done u hu v hv
          · have e : u = z := by simpa using hu
            rw [e] at hv
            exact dn4 v ((my v).mpr hv)
        · show 9 - ((n : Int) + 1).toNat < 9 - ((n : Int)).toNat
          omega
    · have e : n = fs.length := by omega
      walk_at "zz"
      refine q l fs H2 n1 (fun b o hb => k2 b o (ne_of_none hb n1) hb) h2 ⟨iv.nd, iv.first, fun z hz y hy => iv.done z (by rw [e, List.take_of_length_le (Nat.le_refl _)]; exact hz) y hy, iv.least⟩ iv.sub
  · intro σ H' Q1 Q2 hq h
    obtain ⟨x, hx, y, hy, r⟩ := h
    obtain ⟨a, b, c, lv, i, j, ei, ej, k, ek, qk⟩ := r
    exact ⟨x, hx, y, hy, a, b, c, lv, i, j, ei, ej, k, ek, hq _ _ qk⟩
/-- those come to from the first hand on, along ties -/
def Reach (T : List TieR) (z0 : Str) (fs : List Str) : Prop := Led (Adj T) z0 fs
theorem reach_one {T : List TieR} {z0 : Str} {fs fs' : List Str} (a : Reach T z0 fs) (b : Reach T z0 fs') : ∀ z, z ∈ fs ↔ z ∈ fs' := fun z =>
  ⟨fun h => a.least (· ∈ fs') b.first (fun u v hu h => b.closed u hu v h) z h, fun h => b.least (· ∈ fs) a.first (fun u v hu h => a.closed u hu v h) z h⟩
def spWholeWeb (Ps : List Addr) : Sp := fun vs H Q _ => ∃ (p : Addr) (L : List HandR) (T : List TieR) (n : Nat), vs = [.ref p] ∧ Web H p L T ∧ HandsOk L n ∧ TiesOk (nmsOf L) T ∧ TGs H Ps ∧ ∀ (m : HandR) (fs : List Str) (H2 : Hp), L[0]? = some m → Reach T m.2.1 fs → (∀ z ∈ fs, z ∈ nmsOf L) → Kc Ps H H2 → Q (.bl (decide (fs.length = L.length))) H2
def DInv (D : Addr) (H0 : Hp) (L : List HandR) (T : List TieR) (i : Nat) (H' : Hp) : Prop := Same H0 H' ∧ ∃ kvs : List (Key × V), H' D = some (.dK kvs) ∧ kvs.length ≤ i ∧ ∀ z ∈ (nmsOf L).take i, ∃ (p : Addr) (ys : List Str), valV kvs (.inr z) = some (.ref p) ∧ p ≠ D ∧ H' p = some (.lst (ys.map V.str)) ∧ ∀ y, y ∈ ys ↔ Adj T z y
theorem putK_len (kvs : List (Key × V)) (k : Key) (v : V) : (putK kvs k v).length ≤ kvs.length + 1 := by
  unfold putK
  split
  · rw [List.length_map]; omega
  · rw [List.length_append]; exact Nat.le_refl _
theorem dc_list {a : Addr} {xs : List V} {g : TG} {tt : TT} {tk tv : TE} {vs : List Nat} {σ : L2.St} {H1 : Hp} {D : Addr} {Qd : Hp → Prop} (Pv : Nat → Hp → Prop) (h0 : Pv 0 (upd H1 D (.dK []))) (hl : ∀ i H, i ≤ xs.length → Pv i H → SqL K H a xs)
    (hs : ∀ i x H, xs[i]? = some x → Pv i H → g x (wipe σ vs) H fun σ2 H2 => wipe σ2 vs = wipe σ vs ∧ tt σ2 H2 fun b H3 => if b = true then tk σ2 H3 fun y H4 => tv σ2 H4 fun z H5 => ∃ kvs k, y = kV k ∧ H5 D = some (.dK kvs) ∧ kvs.length < sizeLine ∧ Pv (i + 1) (upd H5 D (.dK (putK kvs k z))) else Pv (i + 1) H3) (hd : ∀ H, Pv xs.length H → Qd H) :
    ∃ W : Nat → Nat → Hp → Prop, (∃ m, W 0 m (upd H1 D (.dK []))) ∧ ∀ i m H, W i m H → ((Itl K a).stop i H ∧ Qd H) ∨ ((Itl K a).go i H ∧ ∃ Nx : Hp → Prop, (∀ H', Nx H' → ∃ m', m' < m ∧ W (i + 1) m' H') ∧ ∀ x H', (Itl K a).yld i H x H' → g x (wipe σ vs) H' fun σ2 H2 => wipe σ2 vs = wipe σ vs ∧ tt σ2 H2 fun b H3 =>
      if b = true then tk σ2 H3 fun y H4 => tv σ2 H4 fun z H5 => ∃ kvs k, y = kV k ∧ H5 D = some (.dK kvs) ∧ kvs.length < sizeLine ∧ Nx (upd H5 D (.dK (putK kvs k z))) else Nx H3) := by
  refine ⟨fun i m H => i ≤ xs.length ∧ m = xs.length - i ∧ Pv i H, ⟨xs.length, Nat.zero_le _, by simp, h0⟩, ?_⟩
  rintro i m H ⟨hi, rfl, p⟩
  have q := hl i H hi p
  by_cases lt : i < xs.length
  · refine .inr ⟨⟨xs, xs[i], q, by simp [lt]⟩, Pv (i + 1), fun H' p' => ⟨xs.length - (i + 1), by omega, lt, rfl, p'⟩, fun x H' y => ?_⟩
    obtain ⟨rfl, y⟩ := y
    exact hs i x _ (y xs q) p
  · have e : i = xs.length := by omega
    subst e
    exact .inl ⟨⟨xs, q, Nat.le_refl _⟩, hd H p⟩
theorem ok_is_whole {f : Addr} {Ps : List Addr} {fd : FuncData} (F : FnP K "is_whole" s_is_whole f fd) (m_len : mg "len" = none)
    (h_check_web : Has P w K mg base 14 "check_web" ["web"] (spWeb Ps)) (h_tied_to : Has P w K mg base 1 "tied_to" ["name", "ties"] spTied) (h_led_to : Has P w K mg base 1 "led_to" ["name", "named"] spLed) : FnOk P w K mg base CX0 15 f fd ["web"] (spWholeWeb Ps) := by
  refine F.ok sc_is_whole (fun vs H Q E h => ?_) (fun cdv A outer s H vs Q E hr h => ?_)
  · obtain ⟨p, L, T, n, rfl, _⟩ := h; rfl
  obtain ⟨p, L, T, n, rfl, wb, okH, okT, hT, q⟩ := h
  refine ⟨_, PSs.nox (pss_cons (ps_expr (pe_callH h_check_web (hr.mono (by decide)) (by rfl) (pa_cons (pv 0) pa_nil)))
  (pss_cons (ps_asg (pv 0) (pg_tup rfl (pgs_cons (pg_name (i := 1) sc_is_whole.nd rfl (.inl rfl)) (pgs_cons (pg_name (i := 2) sc_is_whole.nd rfl (.inr rfl)) pgs_nil))))
  (pss_cons (ps_setDc (i := 3) (own := [("name", 4), ("numbers", 5)]) (g := (gTup K 2 (gCons (gName 4) (gCons (gName 5) gNil)))) (by rfl) sc_is_whole.nd rfl rfl (swD_true rfl rfl rfl (by decide +kernel)) (pi_listE K (pv 1)) (blkOk_by (own := [("name", 4), ("numbers", 5)]) (N := ["web", "hands", "ties", "named", "name", "numbers"]) (sc := defScope s_is_whole) (by decide +kernel)) (fun _ _ _ _ _ => (pg_tup rfl (pgs_cons (pg_name (i := 4) sc_is_whole.nd rfl (.inl rfl)) (pgs_cons (pg_name (i := 5) sc_is_whole.nd rfl (.inl rfl)) pgs_nil)))) (fun _ _ _ _ _ => pts_nil) (fun _ _ _ _ _ => (pv 4)) (fun _ _ _ _ _ => (pe_callH h_tied_to (hr.mono (by decide)) (by rfl) (pa_cons (pv 4) (pa_cons (pv 2) pa_nil)))))
  (pss_one (ps_ret (pe_cmpR op_eq (pe_callB (call_lenE K) (by rfl) m_len (by decide +kernel) (pa_cons (pe_callH h_led_to (hr.mono (by decide)) (by rfl) (pa_cons (pe_ix (ix_tupE K) (pe_ix (ix_listE K) (pv 1) pe_int (fun _ _ => rfl)) pe_int (fun _ _ => rfl)) (pa_cons (pv 3) pa_nil))) pa_nil)) (pe_callB (call_lenE K) (by rfl) m_len (by decide +kernel) (pa_cons (pv 1) pa_nil)) (nomark _))))))), ?_⟩
  walk_at "zz"
  refine ⟨p, L, T, n, rfl, wb, okH, okT, hT, fun H1 c1 => ?_⟩
  obtain ⟨h, t, hp, hh, ht⟩ := (wb.kp c1.kp).ex
  have o1 := okH.one
  have o8 := okH.few
  obtain ⟨m0, hm0⟩ : ∃ m, L[0]? = some m := ⟨_, List.getElem?_eq_getElem (by omega)⟩
  have mem0 := List.mem_of_getElem? hm0
  walk_at "zz"
  refine z_gTup (SqT.of hp) rfl ?_
  walk_at "zz"
  show iList K _ _ _ _
  walk_at "zz"
  refine ⟨h, rfl, ⟨_, SqL.of hh.lst⟩, fun D nD => dc_list (xs := L.map fun m => V.ref m.1) (DInv D H1 L T) ⟨same_upd nD, [], upd_same, Nat.zero_le _, fun z hz => absurd hz (by simp)⟩ (fun i H' _ hp => SqL.of (hp.1 _ _ hh.lst)) ?_ ?_⟩
  · rintro i x H2 hx ⟨e2, kvs, hD, lk, each⟩
    obtain ⟨m, hm, mem, rfl⟩ := hands_at hx
    have zi : (nmsOf L)[i]? = some m.2.1 := by rw [List.getElem?_map, hm]; rfl
    have il : i < L.length := (List.getElem?_eq_some_iff.mp hm).1
    walk_at "zz"
    refine z_gTup (SqT.of (e2 _ _ (hh.tup m mem))) rfl ?_
    walk_at "zz"
    refine ⟨rfl, ?_⟩
    walk_at "zz"
    refine ⟨m.2.1, t, T, rfl, ht.kp (Kp.of_same e2), okT.few, fun k hk => (okT.nm k hk).2.2, fun p3 ys H3 n3 e3 h3 my => ?_⟩
    have hD3 := e3 _ _ hD
    have p3D : p3 ≠ D := (ne_of_none hD n3).symm
    refine ⟨kvs, .inr m.2.1, rfl, hD3, small1000 (by omega), fun b o hb => by rw [upd_ne (ne_of_none hb nD)]; exact e3 _ _ (e2 _ _ hb), _, upd_same, Nat.le_trans (putK_len _ _ _) (by omega), fun z hz => ?_⟩
    by_cases ez : z = m.2.1
    · exact ⟨p3, ys, by rw [valV_put, if_pos (by rw [ez])], p3D, by rw [upd_ne p3D]; exact h3, fun y => by rw [ez]; exact my y⟩
    · have hz' : z ∈ (nmsOf L).take i := by
        rw [List.take_add_one, zi] at hz
        rcases List.mem_append.mp hz with hz | hz
        · exact hz
        · exact absurd (by simpa using hz) ez
      obtain ⟨pz, yz, v1, v2, v3, v4⟩ := each z hz'
      exact ⟨pz, yz, by rw [valV_put, if_neg (fun q => ez (Sum.inr.inj q))]; exact v1, v2, by rw [upd_ne v2]; exact e3 _ _ v3, v4⟩
  · rintro H2 ⟨e2, kvs, hD, lk, each⟩
    have et : (nmsOf L).take (L.map fun m => V.ref m.1).length = nmsOf L := List.take_of_length_le (by rw [List.length_map, List.length_map]; exact Nat.le_refl _)
    rw [et] at each
    walk_at "zz"
    refine z_ixL (SqL.of (e2 _ _ hh.lst)) (at_of (j := 0) rfl (by rw [List.getElem?_map, hm0]; rfl)) ?_
    walk_at "zz"
    refine z_ixT (SqT.of (e2 _ _ (hh.tup m0 mem0))) rfl ?_
    walk_at "zz"
    refine ⟨m0.2.1, D, nmsOf L, Adj T, rfl, ⟨kvs, hD, fun z hz => ?_⟩, List.mem_map.mpr ⟨m0, mem0, rfl⟩, by rw [List.length_map]; exact o8, fun z _ y hy => ?_, fun p3 fs H3 n3 e3 h3 led sub => ?_⟩
    · obtain ⟨pz, yz, v1, _, v3, v4⟩ := each z hz
      exact ⟨pz, yz, v1, v3, v4⟩
    · obtain ⟨k, hk, a | a⟩ := hy
      · rw [← a.2]; exact (okT.mem k hk).1
      · rw [← a.2]; exact (okT.mem k hk).2
    · walk_at "zz"
      refine z_lenL (SqL.of h3) ?_
      walk_at "zz"
      refine z_lenL (SqL.of (e3 _ _ (e2 _ _ hh.lst))) ?_
      walk_at "zz"
      have k3 := c1.trans (Kc.of_same c1.tg (e2.trans e3))
      refine bool_bl ?_ (q m0 fs H3 hm0 led sub k3)
      rw [List.length_map, List.length_map]
      exact decide_eq_decide.mpr (by omega)
def spCell (K : PySem.W.Frag) : Sp := fun vs H Q _ => ∃ (a : Addr) (ns : List Int) (k : Nat), vs = [.ref a, .int (k : Int)] ∧ SqL K H a (ns.map V.int) ∧ ns.length ≤ 63 ∧ ∀ c : Int, Q (.int c) H
theorem ok__law_cell_at {f : Addr} {fd : FuncData} (F : FnP K "_law_cell_at" s__law_cell_at f fd) (m_len : mg "len" = none) : FnOk P w K mg base CX0 1 f fd ["_law_script", "_law_k"] (spCell K) := by
  refine F.ok sc__law_cell_at (fun vs H Q E h => ?_) (fun cdv A outer s H vs Q E hr h => ?_)
  · obtain ⟨a, ns, k, rfl, _⟩ := h; rfl
  obtain ⟨a, ns, k, rfl, hS, hl, q⟩ := h
  refine ⟨_, PSs.nox (pss_cons (ps_if (pt_cmpR op_lt (pv 1) (pe_callB (call_lenE K) (by rfl) m_len (by decide +kernel) (pa_cons (pv 0) pa_nil)) (nomark _))
    (pss_one (ps_ret (pe_ix (ix_listE K) (pv 0) (pv 1) (fun _ _ => rfl))))
    pss_nil)
  (pss_one (ps_ret pe_int))), ?_⟩
  walk_at "zz"
  refine z_lenL hS ?_
  rw [List.length_map]
  walk_at "zz"
  refine z_ite (fun h => ?_) (fun h => ?_)
  · walk_at "zz"
    have h1 : k < ns.length := by omega
    refine z_ixL hS (v := .int ns[k]) (atI_nat ?_) ?_
    · rw [List.getElem?_map, List.getElem?_eq_getElem h1]
      rfl
    · exact q _
  · walk_at "zz"
    exact q _
def spMixed : Sp := fun vs H Q _ => ∃ c k : Int, vs = [.int c, .int k] ∧ ∀ r : Int, 0 ≤ r → Q (.int r) H
theorem ok__law_mixed {f : Addr} {fd : FuncData} (F : FnP K "_law_mixed" s__law_mixed f fd) : FnOk P w K mg base CX0 1 f fd ["_law_cell", "_law_k"] spMixed := by
  refine F.ok sc__law_mixed (fun vs H Q E h => ?_) (fun cdv A outer s H vs Q E hr h => ?_)
  · obtain ⟨c, k, rfl, _⟩ := h; rfl
  obtain ⟨c, k, rfl, q⟩ := h
  refine ⟨_, PSs.nox (pss_cons (ps_set (i := 2) sc__law_mixed.nd rfl (.inl rfl) (pe_op op_modN (pe_op op_mulA (pe_op op_add (pe_op op_add (pe_op op_modN (pv 0) pe_int) (pe_op op_mulA pe_int (pv 1))) pe_int) pe_int) pe_int))
  (pss_cons (ps_set (i := 2) sc__law_mixed.nd rfl (.inl rfl) (pe_op op_modN (pe_op op_mulA (pv 2) (pe_op op_add (pe_op op_fdivA (pv 2) pe_int) pe_int)) pe_int))
  (pss_one (ps_ret (pe_op op_modN (pe_op op_mulA (pv 2) (pe_op op_add (pe_op op_fdivA (pv 2) pe_int) pe_int)) pe_int))))), ?_⟩
  walk_at "zz"
  refine z_mulA (mulL (by decide)) ?_
  walk_at "zz"
  refine z_mulA (mulR (by decide)) ?_
  walk_at "zz"
  generalize hn : ((c.fmod 2147483647 + 7919 * k + 1) * 48271).fmod 2147483647 = n
  have n0 : 0 ≤ n := by rw [← hn]; exact Int.fmod_nonneg_of_pos _ (by decide)
  have n1 : n < 2147483647 := by rw [← hn]; exact Int.fmod_lt_of_pos _ (by decide)
  refine z_fdivA ⟨by decide, by decide +kernel⟩ ?_
  walk_at "zz"
  refine z_mulA (mulL ⟨by omega, by omega⟩) ?_
  walk_at "zz"
  generalize hk : (n * (n.fdiv 1009 + 69621)).fmod 2147483647 = j
  have k0 : 0 ≤ j := by rw [← hk]; exact Int.fmod_nonneg_of_pos _ (by decide)
  have k1 : j < 2147483647 := by rw [← hk]; exact Int.fmod_lt_of_pos _ (by decide)
  refine z_fdivA ⟨by decide, by decide +kernel⟩ ?_
  walk_at "zz"
  refine z_mulA (mulL ⟨by omega, by omega⟩) ?_
  walk_at "zz"
  exact q _ (Int.fmod_nonneg_of_pos _ (by decide))
def spBegin (K : PySem.W.Frag) : Sp := fun vs H Q _ => ∃ c : Int, vs = [.int c] ∧ ∀ p H', H p = none → Same H H' → Src H' p → Q (.ref p) H'
theorem ok__law_well {f : Addr} {fd : FuncData} (F : FnP K "_law_well" s__law_well f fd) (m_int : mg "int" = none) : FnOk P w K mg base CX0 1 f fd ["_law_cell"] (spBegin K) := by
  refine F.ok sc__law_well (fun vs H Q E h => ?_) (fun cdv A outer s H vs Q E hr h => ?_)
  · obtain ⟨c, rfl, _⟩ := h; rfl
  obtain ⟨c, rfl, q⟩ := h
  refine ⟨_, PSs.nox (pss_one (ps_ret (pe_lst (pa_cons (pe_ix (ix_listE K) (pe_lst (pa_cons pe_int (pa_cons (pv 0) pa_nil))) (pe_callTy call_intE (by rfl) m_int (by decide +kernel) (pa_cons (pe_cmpR op_ge (pv 0) (pe_op op_pow pe_int pe_int) (nomark _)) pa_nil)) (fun _ _ => rfl)) (pa_cons (pv 0) (pa_cons pe_int pa_nil)))))), ?_⟩
  walk_at "zz"
  refine z_new (by simp) (fun p1 H1 n1 s1 h1 => ?_)
  walk_at "zz"
  obtain ⟨x, hx⟩ : ∃ x : Int, atI [V.int 0, V.int c] (if decide (((10 : Int) ^ Int.toNat 18) ≤ c) = true then 1 else 0) = some (.int x) := by
    by_cases h : ((10 : Int) ^ Int.toNat 18) ≤ c
    · exact ⟨c, by rw [decide_eq_true h]; rfl⟩
    · exact ⟨0, by rw [decide_eq_false h]; rfl⟩
  refine z_ixL (SqL.of h1) hx ?_
  walk_at "zz"
  refine z_new (by simp) (fun p2 H2 n2 s2 h2 => ?_)
  exact q p2 H2 (s1.free n2) (s1.trans s2) ⟨_, _, _, h2⟩
def spDraw : Sp := fun vs H Q _ => ∃ (s : Addr) (m : Int), vs = [.ref s, .int m] ∧ 0 < m ∧ m.natAbs < 2 ^ 8000 ∧ Src H s ∧ ∀ (r : Int) H', 0 ≤ r → r < m → Dr s H H' → Q (.int r) H'
theorem ok__law_draw {f : Addr} {fd : FuncData} (F : FnP K "_law_draw" s__law_draw f fd) (h__law_mixed : Has P w K mg base 1 "_law_mixed" ["_law_cell", "_law_k"] spMixed) : FnOk P w K mg base CX0 2 f fd ["_law_well_here", "_law_many"] spDraw := by
  refine F.ok sc__law_draw (fun vs H Q E h => ?_) (fun cdv A outer s H vs Q E hr h => ?_)
  · obtain ⟨s, m, rfl, _⟩ := h; rfl
  obtain ⟨s, m, rfl, h0, hm, ⟨a, b, c, hs⟩, q⟩ := h
  refine ⟨_, PSs.nox (pss_cons (ps_if (pt_cmpR op_gt (pe_ix (ix_listE K) (pv 0) pe_int (fun _ _ => rfl)) pe_int (nomark _))
    (pss_cons (ps_set (i := 2) sc__law_draw.nd rfl (.inl rfl) (pe_op op_modN (pe_ix (ix_listE K) (pv 0) pe_int (fun _ _ => rfl)) (pv 1)))
  (pss_cons (ps_asg (pe_op op_fdivA (pe_ix (ix_listE K) (pv 0) pe_int (fun _ _ => rfl)) (pv 1)) (pg_sub (pv 0) pe_int set_list))
  (pss_one (ps_ret (pv 2)))))
    pss_nil)
  (pss_cons (ps_asg (pe_op op_add (pe_ix (ix_listE K) (pv 0) pe_int (fun _ _ => rfl)) pe_int) (pg_sub (pv 0) pe_int set_list))
  (pss_one (ps_ret (pe_op op_modN (pe_callH h__law_mixed (hr.mono (by decide)) (by rfl) (pa_cons (pe_ix (ix_listE K) (pv 0) pe_int (fun _ _ => rfl)) (pa_cons (pe_ix (ix_listE K) (pv 0) pe_int (fun _ _ => rfl)) pa_nil))) (pv 1)))))), ?_⟩
  have md : ∀ x : Int, CDivA x m := fun x => divA (n := 8000) (by omega) hm (by decide) (by decide)
  have dr : ∀ {H' : Hp} {x y z : Int}, H' = upd H s (.lst [.int x, .int y, .int z]) → Dr s H H' := fun {H' x y z} e => by
    rw [e]
    exact ⟨fun u o n h => by rw [upd_ne n]; exact h, ⟨_, _, _, upd_same⟩, ⟨_, _, _, hs⟩⟩
  walk_at "zz"
  refine z_ixL (SqL.of hs) (v := .int a) rfl ?_
  walk_at "zz"
  refine z_ite (fun h => ?_) (fun h => ?_)
  · walk_at "zz"
    refine z_ixL (SqL.of hs) (v := .int a) rfl ?_
    walk_at "zz"
    refine z_ixL (SqL.of hs) (v := .int a) rfl ?_
    walk_at "zz"
    refine z_fdivA (md _) ?_
    walk_at "zz"
    refine z_setL hs (j := 0) rfl ?_
    walk_at "zz"
    exact q _ _ (Int.fmod_nonneg_of_pos _ h0) (Int.fmod_lt_of_pos _ h0) (dr rfl)
  · walk_at "zz"
    refine z_ixL (SqL.of hs) (v := .int c) rfl ?_
    walk_at "zz"
    refine z_setL hs (j := 2) rfl ?_
    have hs2 : (upd H s (.lst ([V.int a, V.int b, V.int c].set 2 (.int (c + 1))))) s = some (.lst [.int a, .int b, .int (c + 1)]) := upd_same
    walk_at "zz"
    refine z_ixL (SqL.of hs2) (v := .int b) rfl ?_
    walk_at "zz"
    refine z_ixL (SqL.of hs2) (v := .int (c + 1)) rfl ?_
    walk_at "zz"
    refine ⟨_, _, rfl, fun r r0 => ?_⟩
    walk_at "zz"
    exact q _ _ (Int.fmod_nonneg_of_pos _ h0) (Int.fmod_lt_of_pos _ h0) (dr rfl)
def W13 : List Str := ["turn", "come", "tie", "cut", "set", "hand", "web", "book", "up", "held", "way", "sure", "sum"]
def wd (j : Nat) : Str := (W13[j]?).getD ""
theorem wd_nm : ∀ j, j < 13 → nmB (wd j) = true := by decide +kernel
theorem wd_inj : ∀ i, i < 13 → ∀ j, j < 13 → wd i = wd j → i = j := by decide +kernel
theorem wd_at {j : Nat} (h : j < 13) : (W13.map V.str)[j]? = some (.str (wd j)) := by
  have e : W13[j]? = some W13[j] := List.getElem?_eq_getElem (by exact h)
  rw [List.getElem?_map]
  unfold wd
  rw [e]
  rfl
theorem split13 : Txt.split "turn come tie cut set hand web book up held way sure sum" " " = W13 := by decide +kernel
theorem cut_sum (z : Str) (a : Nat) (h : a ≤ z.length) : (cutS z none (some (a : Int))).length + (cutS z (some (a : Int)) none).length ≤ z.length := by
  unfold cutS
  show (List.toArray _).size + (List.toArray _).size ≤ _
  rw [List.size_toArray, List.size_toArray, List.length_take, List.length_drop, List.length_take, List.length_drop, HT.sIx_nat, HT.sIx_none, HT.sIx_none, HT.sIx_nat]
  have : z.cps.toList.length = z.length := by simp [Str.length]
  omega
def spNames : Sp := fun vs H Q _ => ∃ (s : Addr) (n : Nat), vs = [.ref s, .int (n : Int)] ∧ n ≤ 8 ∧ Src H s ∧ ∀ (l : Addr) (zs : List Str) (H' : Hp), H l = none → H' l = some (.lst (zs.map V.str)) → zs.length = n → zs.Nodup → (∀ z ∈ zs, nmB z = true) → Dr s H H' → Q (.ref l) H'
theorem ok__law_names {f : Addr} {fd : FuncData} (F : FnP K "_law_names" s__law_names f fd) (m_len : mg "len" = none) (m_range : mg "range" = none) (h__law_draw : Has P w K mg base 2 "_law_draw" ["_law_well_here", "_law_many"] spDraw) : FnOk P w K mg base CX0 3 f fd ["_law_well_here", "_law_many"] spNames := by
  refine F.ok sc__law_names (fun vs H Q E h => ?_) (fun cdv A outer s0 H vs Q E hr h => ?_)
  · obtain ⟨s, n, rfl, _⟩ := h; rfl
  obtain ⟨s, n, rfl, hn, hs, qq⟩ := h
  refine ⟨_, PSs.nox (pss_cons (ps_set (i := 2) sc__law_names.nd rfl (.inr rfl) pe_str)
  (pss_cons (ps_set (i := 3) sc__law_names.nd rfl (.inr rfl) (pe_split pe_str pe_str))
  (pss_cons (ps_set (i := 4) sc__law_names.nd rfl (.inr rfl) (pe_callH h__law_draw (hr.mono (by decide)) (by rfl) (pa_cons (pv 0) (pa_cons pe_int pa_nil))))
  (pss_cons (ps_set (i := 5) sc__law_names.nd rfl (.inl rfl) (pe_callH h__law_draw (hr.mono (by decide)) (by rfl) (pa_cons (pv 0) (pa_cons pe_int pa_nil))))
  (pss_cons (ps_if (pt_cmpR op_eq (pv 5) pe_int (nomark _))
    (pss_one (ps_ret (pe_lc (own := [("_law_k", 8)]) (g := (gName 8)) (by rfl) sc__law_names.nd (pi_range1 (by rfl) m_range (pa_cons (pv 1) pa_nil)) (blkOk_by (own := [("_law_k", 8)]) (N := ["_law_well_here", "_law_many", "_law_letters", "_law_words", "_law_shift", "_law_way", "_law_stem", "_law_at", "_law_k"]) (sc := defScope s__law_names) (by decide +kernel)) (fun _ _ _ _ _ => (pg_name (i := 8) sc__law_names.nd rfl (.inl rfl))) (fun _ _ _ _ _ => pts_nil) (fun _ _ _ _ _ => (pe_ix (ix_listE K) (pv 3) (pe_op op_modN (pe_op op_add (pv 4) (pv 8)) pe_int) (fun _ _ => rfl))))))
    pss_nil)
  (pss_cons (ps_if (pt_cmpR op_eq (pv 5) pe_int (nomark _))
    (pss_one (ps_ret (pe_lc (own := [("_law_k", 8)]) (g := (gName 8)) (by rfl) sc__law_names.nd (pi_range1 (by rfl) m_range (pa_cons (pv 1) pa_nil)) (blkOk_by (own := [("_law_k", 8)]) (N := ["_law_well_here", "_law_many", "_law_letters", "_law_words", "_law_shift", "_law_way", "_law_stem", "_law_at", "_law_k"]) (sc := defScope s__law_names) (by decide +kernel)) (fun _ _ _ _ _ => (pg_name (i := 8) sc__law_names.nd rfl (.inl rfl))) (fun _ _ _ _ _ => pts_nil) (fun _ _ _ _ _ => (pe_op op_repS (pe_ix ix_str (pv 2) (pv 4) (fun _ _ => rfl)) (pe_op op_add (pv 8) pe_int))))))
    pss_nil)
  (pss_cons (ps_set (i := 6) sc__law_names.nd rfl (.inr rfl) (pe_join pe_str (pe_lc (own := [("_law_k", 8)]) (g := (gName 8)) (by rfl) sc__law_names.nd (pi_range1 (by rfl) m_range (pa_cons (pe_callH h__law_draw (hr.mono (by decide)) (by rfl) (pa_cons (pv 0) (pa_cons pe_int pa_nil))) pa_nil)) (blkOk_by (own := [("_law_k", 8)]) (N := ["_law_well_here", "_law_many", "_law_letters", "_law_words", "_law_shift", "_law_way", "_law_stem", "_law_at", "_law_k"]) (sc := defScope s__law_names) (by decide +kernel)) (fun _ _ _ _ _ => (pg_name (i := 8) sc__law_names.nd rfl (.inl rfl))) (fun _ _ _ _ _ => pts_nil) (fun _ _ _ _ _ => (pe_ix ix_str (pv 2) (pe_callH h__law_draw (hr.mono (by decide)) (by rfl) (pa_cons (pv 0) (pa_cons pe_int pa_nil))) (fun _ _ => rfl))))))
  (pss_cons (ps_set (i := 7) sc__law_names.nd rfl (.inr rfl) (pe_callH h__law_draw (hr.mono (by decide)) (by rfl) (pa_cons (pv 0) (pa_cons (pe_op op_add (pe_callB (call_lenE K) (by rfl) m_len (by decide +kernel) (pa_cons (pv 6) pa_nil)) pe_int) pa_nil))))
  (pss_one (ps_ret (pe_lc (own := [("_law_k", 8)]) (g := (gName 8)) (by rfl) sc__law_names.nd (pi_range1 (by rfl) m_range (pa_cons (pv 1) pa_nil)) (blkOk_by (own := [("_law_k", 8)]) (N := ["_law_well_here", "_law_many", "_law_letters", "_law_words", "_law_shift", "_law_way", "_law_stem", "_law_at", "_law_k"]) (sc := defScope s__law_names) (by decide +kernel)) (fun _ _ _ _ _ => (pg_name (i := 8) sc__law_names.nd rfl (.inl rfl))) (fun _ _ _ _ _ => pts_nil) (fun _ _ _ _ _ => (pe_op op_add_str (pe_op op_add_str (pe_slice sl_str (pv 6) po_none (po_some (pv 7))) (pe_ix ix_str (pv 2) (pe_op op_modN (pe_op op_add (pv 4) (pe_op op_mulA pe_int (pv 8))) pe_int) (fun _ _ => rfl))) (pe_slice sl_str (pv 6) (po_some (pv 7)) po_none)))))))))))))), ?_⟩
  walk_at "zz"
  refine ⟨⟨_, rfl⟩, _, _, rfl, rfl, by decide +kernel, Nat.le_of_lt (small1000 (by decide +kernel)), fun lw nw => ?_⟩
  rw [split13]
  have ew : Same H (upd H lw (.lst (W13.map V.str))) := same_upd nw
  generalize hH1 : upd H lw (.lst (W13.map V.str)) = H1 at ew
  have hw1 : H1 lw = some (.lst (W13.map V.str)) := by rw [← hH1]; exact upd_same
  walk_at "zz"
  refine ⟨s, _, rfl, by decide, by decide +kernel, hs.same ew, fun r2 H2 r20 r21 d2 => ?_⟩
  obtain ⟨sh, rfl⟩ : ∃ j : Nat, r2 = (j : Int) := ⟨r2.toNat, by omega⟩
  walk_at "zz"
  refine ⟨s, _, rfl, by decide, by decide +kernel, d2.src, fun r3 H3 r30 r31 d3 => ?_⟩
  have nws : lw ≠ s := hs.ne nw
  have D3 : Dr s H H3 := (Dr.of_same hs ew).trans (d2.trans d3)
  have hw3 := (d2.trans d3).keep _ _ nws hw1
  have fin : ∀ {H' : Hp} {Dl : Addr} {G : Nat → Str}, H Dl = none → Dr s H H' → H' Dl = some (.lst (((List.range n).map G).map V.str)) → (∀ i j, i < n → j < n → G i = G j → i = j) → (∀ i, i < n → nmB (G i) = true) → Q (.ref Dl) H' := fun {H' Dl G} nD dd hD inj nm => by
    refine qq Dl _ H' nD hD (by simp) (nd_range inj) (fun z hz => ?_) dd
    obtain ⟨i, hi, rfl⟩ := List.mem_map.mp hz
    exact nm i (List.mem_range.mp hi)
  have back : ∀ {H' : Hp} {Dl : Addr}, Dr s H H' → H' Dl = none → H Dl = none := fun {H' Dl} dd nD => by
    cases e : H Dl with
    | none => rfl
    | some o =>
      by_cases z : Dl = s
      · obtain ⟨x1, x2, x3, hz⟩ := dd.src
        rw [z, hz] at nD
        cases nD
      · rw [dd.keep _ _ z e] at nD
        cases nD
  walk_at "zz"
  refine z_ite (fun h0 => ?_) (fun h0 => ?_)
  · walk_at "zz"
    show iRng1 _ _ _ _
    walk_at "zz"
    refine ⟨_, rfl, by omega, by omega, fun Dl nD => lc_range (lo := 0) (n := n) (fun i H' => Same H3 H' ∧ H' Dl = some (.lst (((List.range i).map fun k => wd ((sh + k) % 13)).map V.str))) ⟨same_upd nD, upd_same⟩ ?_ ?_⟩
    · rintro i H4 hi ⟨e4, hD⟩
      refine ⟨rfl, ?_⟩
      walk_at "zz"
      refine z_ixL (SqL.of (e4 _ _ hw3)) (at_of (j := (sh + i) % 13) ?_ (wd_at (Nat.mod_lt _ (by decide)))) ?_
      · rw [Int.fmod_eq_emod_of_nonneg _ (by decide)]
        omega
      refine ⟨_, hD, small1000 (by simp; omega), fun b o hb => by rw [upd_ne (ne_of_none hb nD)]; exact e4 _ _ hb, ?_⟩
      rw [upd_same, List.range_succ, List.map_append, List.map_append]
      rfl
    · rintro H4 ⟨e4, hD⟩
      exact fin (back D3 nD) (D3.trans (Dr.of_same D3.src e4)) hD (fun i j hi hj e => by
        have := wd_inj _ (Nat.mod_lt _ (by decide)) _ (Nat.mod_lt _ (by decide)) e
        omega) (fun i hi => wd_nm _ (Nat.mod_lt _ (by decide)))
  · walk_at "zz"
    refine z_ite (fun h1 => ?_) (fun h1 => ?_)
    · walk_at "zz"
      show iRng1 _ _ _ _
      walk_at "zz"
      refine ⟨_, rfl, by omega, by omega, fun Dl nD => lc_range (lo := 0) (n := n) (fun i H' => Same H3 H' ∧ H' Dl = some (.lst (((List.range i).map fun k => (⟨Array.replicate (k + 1) (97 + sh)⟩ : Str)).map V.str))) ⟨same_upd nD, upd_same⟩ ?_ ?_⟩
      · rintro i H4 hi ⟨e4, hD⟩
        refine ⟨rfl, ?_⟩
        walk_at "zz"
        refine ⟨_, _, 97 + sh, rfl, rfl, Nat.le_of_lt (small1000 (by decide +kernel)), atI_nat (letter_at sh (by omega)), ?_⟩
        walk_at "zz"
        refine ⟨97 + sh, _, rfl, rfl, by omega, by omega, ?_⟩
        rw [show ((0 : Int) + (i : Int) + 1).toNat = i + 1 by omega]
        refine ⟨_, hD, small1000 (by simp; omega), fun b o hb => by rw [upd_ne (ne_of_none hb nD)]; exact e4 _ _ hb, ?_⟩
        rw [upd_same, List.range_succ, List.map_append, List.map_append]
        rfl
      · rintro H4 ⟨e4, hD⟩
        exact fin (back D3 nD) (D3.trans (Dr.of_same D3.src e4)) hD (fun i j hi hj e => by
          have e2 : (Array.replicate (i + 1) (97 + sh)).size = (Array.replicate (j + 1) (97 + sh)).size := congrArg (fun z : Str => z.cps.size) e
          rw [Array.size_replicate, Array.size_replicate] at e2
          omega) (fun i hi => nm_rep (letter_sm (by omega)) (by omega) (by omega))
    · walk_at "zz"
      refine ⟨⟨_, rfl⟩, ?_⟩
      refine ⟨_, rfl, s, _, rfl, by decide, by decide +kernel, d3.src, fun r4 H4 r40 r41 d4 => ?_⟩
      have D4 := D3.trans d4
      refine ⟨_, rfl, by omega, by omega, fun Dl nD => lc_range (lo := 0) (n := r4.toNat) (fun i H' => Dr s H4 H' ∧ ∃ ws : List Str, H' Dl = some (.lst (ws.map V.str)) ∧ ws.length = i ∧ ∀ y ∈ ws, y.length ≤ 1 ∧ y.cps.toList.all smB = true) ?_ ?_ ?_⟩
      · exact ⟨Dr.of_same d4.src (same_upd nD), [], upd_same, rfl, fun y h => by cases h⟩
      · rintro i H5 hi ⟨d5, ws, hD5, hl, hw⟩
        refine ⟨rfl, ?_⟩
        walk_at "zz"
        refine ⟨s, _, rfl, by decide, by decide +kernel, d5.src, fun r6 H6 r60 r61 d6 => ?_⟩
        obtain ⟨j, rfl⟩ : ∃ j : Nat, r6 = (j : Int) := ⟨r6.toNat, by omega⟩
        have nDs : Dl ≠ s := d4.src.ne nD
        have hD6 := d6.keep _ _ nDs hD5
        refine ⟨_, _, 97 + j, rfl, rfl, Nat.le_of_lt (small1000 (by decide +kernel)), atI_nat (letter_at j (by omega)), ?_⟩
        refine ⟨_, hD6, small1000 (by rw [List.length_map]; omega), ?_, ws ++ [⟨#[97 + j]⟩], ?_, by simp [hl], fun y hy => ?_⟩
        · have d56 := d5.trans d6
          refine ⟨fun b u nb hb => ?_, ?_, d4.src⟩
          · rw [upd_ne (ne_of_none hb nD)]
            exact d56.keep _ _ nb hb
          · obtain ⟨x, y, z, hh⟩ := d56.src
            exact ⟨x, y, z, by rw [upd_ne nDs.symm]; exact hh⟩
        · rw [upd_same, List.map_append]
          rfl
        · rcases List.mem_append.mp hy with h | h
          · exact hw y h
          · rw [List.mem_singleton.mp h]
            refine ⟨Nat.le_refl 1, ?_⟩
            show (smB (97 + j) && true) = true
            rw [letter_sm (by omega)]
            rfl
      · rintro H5 ⟨d5, ws, hD5, hl, hw⟩
        have hj := join_len fun y hy => (hw y hy).1
        have hsum := sum_ones fun y hy => (hw y hy).1
        have hal : (Txt.join "" ws).cps.toList.all smB = true := by
          rw [TL.join_eq]
          exact all_join ws fun y hy => (hw y hy).2
        refine ⟨_, Dl, ws, rfl, rfl, .inl (SqL.of hD5), by
          have h0 : ("" : Str).length = 0 := rfl
          rw [h0, Nat.mul_zero]
          omega, ?_⟩
        generalize Txt.join "" ws = z at *
        walk_at "zz"
        refine z_lenS (by omega) ?_
        walk_at "zz"
        refine ⟨s, _, rfl, by omega, Nat.lt_of_le_of_lt (m := 1000) (by omega) (by decide +kernel), d5.src, fun r7 H7 r70 r71 d7 => ?_⟩
        obtain ⟨at7, rfl⟩ : ∃ j : Nat, r7 = (j : Int) := ⟨r7.toNat, by omega⟩
        have D7 := D4.trans (d5.trans d7)
        have c1 := cut_sum z at7 (by omega)
        have a1 := all_cut hal none (some (at7 : Int))
        have a2 := all_cut hal (some (at7 : Int)) none
        walk_at "zz"
        show iRng1 _ _ _ _
        walk_at "zz"
        refine ⟨_, rfl, by omega, by omega, fun Dl nD => lc_range (lo := 0) (n := n) (fun i H' => Same H7 H' ∧ H' Dl = some (.lst (((List.range i).map fun k => cutS z none (some (at7 : Int)) ++ ⟨#[97 + (sh + 3 * k) % 26]⟩ ++ cutS z (some (at7 : Int)) none).map V.str))) ⟨same_upd nD, upd_same⟩ ?_ ?_⟩
        · rintro i H8 hi ⟨e8, hD⟩
          refine ⟨rfl, ?_⟩
          walk_at "zz"
          refine z_cutS (by omega) ?_
          walk_at "zz"
          refine z_mulA (mulL (by decide)) ?_
          walk_at "zz"
          have hlt : (sh + 3 * i) % 26 < 26 := Nat.mod_lt _ (by decide)
          have ez : ((sh : Int) + 3 * (0 + (i : Int))).fmod 26 = (((sh + 3 * i) % 26 : Nat) : Int) := by
            rw [Int.fmod_eq_emod_of_nonneg _ (by decide)]
            omega
          refine ⟨_, _, 97 + (sh + 3 * i) % 26, rfl, rfl, Nat.le_of_lt (small1000 (by decide +kernel)), by rw [ez]; exact atI_nat (letter_at _ hlt), ?_⟩
          have l1 : (⟨#[97 + (sh + 3 * i) % 26]⟩ : Str).length = 1 := rfl
          refine ⟨_, _, rfl, rfl, Nat.le_of_lt (small1000 (by omega)), ?_⟩
          walk_at "zz"
          refine z_cutS (by omega) ?_
          refine ⟨_, _, rfl, rfl, Nat.le_of_lt (small1000 (by rw [Str.length_append]; omega)), ?_⟩
          refine ⟨_, hD, small1000 (by simp; omega), fun b o hb => by rw [upd_ne (ne_of_none hb nD)]; exact e8 _ _ hb, ?_⟩
          rw [upd_same, List.range_succ, List.map_append, List.map_append]
          rfl
        · rintro H8 ⟨e8, hD⟩
          exact fin (back D7 nD) (D7.trans (Dr.of_same D7.src e8)) hD (fun i j hi hj e => by
            have := inj_mid e
            omega) (fun i hi => nm_mid a1 a2 (letter_sm (Nat.mod_lt _ (by decide))) (by omega))
def spNumbers : Sp := fun vs H Q _ => ∃ (s : Addr) (n : Nat), vs = [.ref s, .int (n : Int)] ∧ n ≤ 100 ∧ Src H s ∧ ∀ (p : Addr) (ns : List Int) (H' : Hp), H' p = some (.tup (ns.map V.int)) → ns.length = n → (∀ x ∈ ns, inFar x = true) → Dr s H H' → Q (.ref p) H'
theorem ok__law_numbers {f : Addr} {fd : FuncData} (F : FnP K "_law_numbers" s__law_numbers f fd) (m_range : mg "range" = none) (m_tuple : mg "tuple" = none) (h__law_draw : Has P w K mg base 2 "_law_draw" ["_law_well_here", "_law_many"] spDraw) : FnOk P w K mg base CX0 3 f fd ["_law_well_here", "_law_size"] spNumbers := by
  refine F.ok sc__law_numbers (fun vs H Q E h => ?_) (fun cdv A outer s0 H vs Q E hr h => ?_)
  · obtain ⟨s, n, rfl, _⟩ := h; rfl
  obtain ⟨s, n, rfl, hn, hs, q⟩ := h
  refine ⟨_, PSs.nox (pss_cons (ps_set (i := 2) sc__law_numbers.nd rfl (.inl rfl) (pe_lst pa_nil))
  (pss_cons (ps_for PassesOwn.never rfl (pi_range1 (by rfl) m_range (pa_cons (pv 1) pa_nil)) (pg_name (i := 3) sc__law_numbers.nd rfl (.inl rfl))
    (pss_cons (ps_set (i := 4) sc__law_numbers.nd rfl (.inl rfl) (pe_lst (pa_cons pe_int (pa_cons (pe_op op_sub (pe_callH h__law_draw (hr.mono (by decide)) (by rfl) (pa_cons (pv 0) (pa_cons pe_int pa_nil))) pe_int) (pa_cons (pe_op op_pow pe_int pe_int) (pa_cons (pe_op op_sub pe_int (pe_op op_pow pe_int pe_int)) pa_nil))))))
  (pss_cons (ps_set (i := 4) sc__law_numbers.nd rfl (.inl rfl) (pe_op op_cat (pv 4) (pe_lst (pa_cons (pe_op op_sub (pe_callH h__law_draw (hr.mono (by decide)) (by rfl) (pa_cons (pv 0) (pa_cons (pe_op op_add (pe_op op_mulA pe_int (pe_op op_pow pe_int pe_int)) pe_int) pa_nil))) (pe_op op_pow pe_int pe_int)) pa_nil))))
  (pss_one (ps_expr (pe_bm PySem.F.plainAttrs_list PySem.F.slot_list_append PySem.F.type_list_append mt_append (pv 2) (pa_cons (pe_ix (ix_listE K) (pv 4) (pe_callH h__law_draw (hr.mono (by decide)) (by rfl) (pa_cons (pv 0) (pa_cons pe_int pa_nil))) (fun _ _ => rfl)) pa_nil)))))))
  (pss_one (ps_ret (pe_callTy (call_tupleE K) (by rfl) m_tuple (by decide +kernel) (pa_cons (pv 2) pa_nil)))))), ?_⟩
  walk_at "zz"
  refine z_new (by simp) (fun l1 H1 n1 e1 h1 => ?_)
  walk_at "zz"
  have l1s : l1 ≠ s := hs.ne n1
  refine ⟨_, rfl, by omega, by omega, for_range (lo := 0) (n := n) (fun i σ H' => (∃ y3 y4, σ = [some (.ref s), some (.int (n : Int)), some (.ref l1), y3, y4]) ∧ (∀ b o, b ≠ s → b ≠ l1 → H b = some o → H' b = some o) ∧ Src H' s ∧ ∃ ns : List Int, H' l1 = some (.lst (ns.map V.int)) ∧ ns.length = i ∧ ∀ x ∈ ns, inFar x = true) ⟨⟨_, _, rfl⟩, fun b o nb _ hb => e1 _ _ hb, hs.same e1, [], h1, rfl, fun x h => by cases h⟩ ?_ ?_⟩
  · rintro i σ H3 hi ⟨⟨y3, y4, rfl⟩, k3, r3, ns, h3, hl, hns⟩
    walk_at "zz"
    refine ⟨s, _, rfl, by decide, by decide +kernel, r3, fun r4 H4 r40 r41 d4 => ?_⟩
    walk_at "zz"
    refine z_new (by simp) (fun l5 H5 n5 e5 h5 => ?_)
    walk_at "zz"
    refine z_mulA (mulL (by decide)) ?_
    walk_at "zz"
    refine ⟨s, _, rfl, by decide, by decide +kernel, d4.src.same e5, fun r6 H6 r60 r61 d6 => ?_⟩
    walk_at "zz"
    refine z_new (by simp) (fun l7 H7 n7 e7 h7 => ?_)
    have l5s := d4.src.ne n5
    refine z_cat (e7 _ _ (d6.keep _ _ l5s h5)) h7 (by simp) (fun l8 H8 n8 e8 h8 => ?_)
    have d38 : Dr s H3 H7 := d4.trans ((Dr.of_same d4.src e5).trans (d6.trans (Dr.of_same d6.src e7)))
    have d38' : Dr s H3 H8 := d38.trans (Dr.of_same d38.src e8)
    walk_at "zz"
    have h18 := d38'.keep _ _ l1s h3
    refine ⟨.inl ⟨rfl, _, SqL.of h18⟩, ?_⟩
    walk_at "zz"
    refine ⟨s, _, rfl, by decide, by decide +kernel, d38'.src, fun r9 H9 r90 r91 d9 => ?_⟩
    have h89 := d9.keep _ _ (d38.src.ne n8) h8
    have h19 := d9.keep _ _ l1s h18
    have e12 : (10 : Int) ^ Int.toNat 12 = 1000000000000 := by decide
    rw [e12] at r61
    obtain ⟨n, hn, hfar⟩ : ∃ n : Int, atI ([V.int 0, V.int (r4 - 5), V.int (10 ^ Int.toNat 12), V.int (0 - 10 ^ Int.toNat 12)] ++ [V.int (r6 - 10 ^ Int.toNat 12)]) r9 = some (.int n) ∧ inFar n = true := by
      have far : ∀ {x : Int}, -1000000000000 ≤ x → x ≤ 1000000000000 → inFar x = true := fun h1 h2 => by
        unfold inFar
        rw [decide_eq_true h1, decide_eq_true h2]
        rfl
      rw [e12]
      rcases (show r9 = 0 ∨ r9 = 1 ∨ r9 = 2 ∨ r9 = 3 ∨ r9 = 4 by omega) with rfl | rfl | rfl | rfl | rfl
      · exact ⟨_, rfl, far (by omega) (by omega)⟩
      · exact ⟨_, rfl, far (by omega) (by omega)⟩
      · exact ⟨_, rfl, far (by omega) (by omega)⟩
      · exact ⟨_, rfl, far (by omega) (by omega)⟩
      · exact ⟨_, rfl, far (by omega) (by omega)⟩
    refine z_ixL (SqL.of h89) hn ?_
    have d39 := d38'.trans d9
    refine ⟨l1, _, _, rfl, rfl, h19, small1000 (by rw [List.length_map]; omega), ⟨_, _, rfl⟩, fun b o nb nl hb => by rw [upd_ne nl]; exact d39.keep _ _ nb (k3 b o nb nl hb), ?_, ns ++ [n], by rw [upd_same, List.map_append]; rfl, by simp [hl], fun x hx => ?_⟩
    · obtain ⟨x, y, z, hz⟩ := d39.src
      exact ⟨x, y, z, by rw [upd_ne l1s.symm]; exact hz⟩
    · rcases List.mem_append.mp hx with h | h
      · exact hns x h
      · rw [List.mem_singleton.mp h]; exact hfar
  · rintro σ H3 ⟨⟨y3, y4, rfl⟩, k3, r3, ns, h3, hl, hns⟩
    walk_at "zz"
    refine z_tupleL h3 (fun r H4 n4 e4 h4 => ?_)
    exact q r ns _ h4 hl hns ⟨fun b o nb hb => e4 _ _ (k3 b o nb (ne_of_none hb n1) hb), r3.same e4, hs⟩
theorem lex_tri : ∀ a b : List Nat, a < b ∨ a = b ∨ b < a
  | [], [] => .inr (.inl rfl)
  | [], _ :: _ => .inl List.Lex.nil
  | _ :: _, [] => .inr (.inr List.Lex.nil)
  | x :: a, y :: b => by
    rcases Nat.lt_trichotomy x y with h | h | h
    · exact .inl (List.Lex.rel h)
    · subst h
      rcases lex_tri a b with h | h | h
      · exact .inl (List.Lex.cons h)
      · exact .inr (.inl (by rw [h]))
      · exact .inr (.inr (List.Lex.cons h))
    · exact .inr (.inr (List.Lex.rel h))
theorem lex_asym : ∀ a b : List Nat, a < b → ¬ b < a
  | [], _, _, h => by cases h
  | x :: a, [], h, _ => by cases h
  | x :: a, y :: b, h, g => by
    cases h with
    | rel h =>
      cases g with
      | rel g => omega
      | cons g => omega
    | cons h =>
      cases g with
      | rel g => omega
      | cons g => exact lex_asym a b h g
theorem str_ext {x y : Str} (h : x.cps.toList = y.cps.toList) : x = y := by
  cases x; cases y
  exact congrArg Str.mk (Array.ext' h)
theorem low_top (x y : Str) : (lowS x y = x ∧ topS2 x y = y) ∨ (lowS x y = y ∧ topS2 x y = x) := by
  unfold lowS topS2 sLt
  rcases lex_tri x.cps.toList y.cps.toList with h | h | h
  · have n := lex_asym _ _ h
    rw [decide_eq_true h, decide_eq_false n]
    exact .inl ⟨rfl, rfl⟩
  · have e := str_ext h
    subst e
    simp
  · have n := lex_asym _ _ h
    rw [decide_eq_true h, decide_eq_false n]
    exact .inr ⟨rfl, rfl⟩
theorem tk2_inj {x y x' y' : Str} (h : tk2 x y = tk2 x' y') : (x = x' ∧ y = y') ∨ (x = y' ∧ y = x') := by
  unfold tk2 at h
  injection h with h1 h2
  injection h2 with h2 _
  injection h1 with h1
  injection h2 with h2
  rcases low_top x y with ⟨a, b⟩ | ⟨a, b⟩ <;> rcases low_top x' y' with ⟨c, d⟩ | ⟨c, d⟩ <;> rw [a, c] at h1 <;> rw [b, d] at h2
  · exact .inl ⟨h1, h2⟩
  · exact .inr ⟨h1, h2⟩
  · exact .inr ⟨h2, h1⟩
  · exact .inl ⟨h2, h1⟩
structure TInv (zs : List Str) (T : List TieR) (k j : Nat) : Prop where
  pl : ∀ m ∈ T, ∃ a b x y, b < a ∧ (a < k ∨ (a = k ∧ b < j)) ∧ zs[a]? = some x ∧ zs[b]? = some y ∧ (m.2 = (x, y) ∨ m.2 = (y, x))
  nd : (tks T).Nodup
  few : T.length ≤ 7 * k + j
theorem nd_ix {zs : List Str} (nd : zs.Nodup) {i j : Nat} {x : Str} (h : zs[i]? = some x) (g : zs[j]? = some x) : i = j := by
  obtain ⟨hi, e⟩ := List.getElem?_eq_some_iff.mp h
  obtain ⟨hj, e2⟩ := List.getElem?_eq_some_iff.mp g
  rcases Nat.lt_trichotomy i j with z | z | z
  · exact absurd (e.trans e2.symm) (List.pairwise_iff_getElem.mp nd i j hi hj z)
  · exact z
  · exact absurd (e2.trans e.symm) (List.pairwise_iff_getElem.mp nd j i hj hi z)
theorem TInv.snoc {zs : List Str} {T : List TieR} {k j : Nat} (h : TInv zs T k j) (nd : zs.Nodup) (hj : j < k) {x y : Str} (hx : zs[k]? = some x) (hy : zs[j]? = some y) {p : Addr} {u v : Str} (hm : (u, v) = (x, y) ∨ (u, v) = (y, x)) : TInv zs (T ++ [(p, u, v)]) k (j + 1) where
  pl := fun m mm => by
    rcases List.mem_append.mp mm with mm | mm
    · obtain ⟨a, b, x', y', h1, h2, h3⟩ := h.pl m mm
      exact ⟨a, b, x', y', h1, by omega, h3⟩
    · rw [List.mem_singleton.mp mm]
      exact ⟨k, j, x, y, hj, by omega, hx, hy, hm⟩
  nd := by
    show (List.map _ _).Nodup
    rw [List.map_append]
    refine List.nodup_append.mpr ⟨h.nd, by simp, fun c hc d hd e => ?_⟩
    have hd' : d = tk2 u v := by simpa using hd
    rw [hd'] at e
    obtain ⟨m, mm, rfl⟩ := List.mem_map.mp hc
    obtain ⟨a, b, x', y', h1, h2, ha, hb, hs⟩ := h.pl m mm
    have sw : (x' = x ∧ y' = y) ∨ (x' = y ∧ y' = x) := by
      have q := tk2_inj e
      rcases hs with hs | hs <;> rw [hs] at q <;> rcases hm with hm | hm <;> injection hm with m1 m2 <;> rw [m1, m2] at q <;> rcases q with ⟨q1, q2⟩ | ⟨q1, q2⟩
      · exact .inl ⟨q1, q2⟩
      · exact .inr ⟨q1, q2⟩
      · exact .inr ⟨q1, q2⟩
      · exact .inl ⟨q1, q2⟩
      · exact .inr ⟨q2, q1⟩
      · exact .inl ⟨q2, q1⟩
      · exact .inl ⟨q2, q1⟩
      · exact .inr ⟨q2, q1⟩
    rcases sw with ⟨rfl, rfl⟩ | ⟨rfl, rfl⟩
    · have e1 := nd_ix nd ha hx
      have e2 := nd_ix nd hb hy
      omega
    · have e1 := nd_ix nd ha hy
      have e2 := nd_ix nd hb hx
      omega
  few := by
    have := h.few
    rw [List.length_append, List.length_singleton]
    omega
theorem TInv.up {zs : List Str} {T : List TieR} {k j : Nat} (h : TInv zs T k j) {k' j' : Nat} (hk : k < k' ∨ (k = k' ∧ j ≤ j')) (hf : 7 * k + j ≤ 7 * k' + j') : TInv zs T k' j' :=
  ⟨fun m mm => by
    obtain ⟨a, b, x, y, h1, h2, h3⟩ := h.pl m mm
    exact ⟨a, b, x, y, h1, by omega, h3⟩, h.nd, Nat.le_trans h.few hf⟩
theorem TInv.ok {zs : List Str} {T : List TieR} {k : Nat} (h : TInv zs T k 0) (hk : k ≤ 8) (nd : zs.Nodup) (nm : ∀ z ∈ zs, nmB z = true) : TiesOk zs T where
  few := by
    have := h.few
    omega
  nm := fun m mm => by
    obtain ⟨a, b, x, y, h1, h2, ha, hb, hs⟩ := h.pl m mm
    have ix := nm x (List.mem_of_getElem? ha)
    have iy := nm y (List.mem_of_getElem? hb)
    have ne : x ≠ y := fun e => by
      rw [e] at ha
      have := nd_ix nd ha hb
      omega
    rcases hs with hs | hs <;> rw [hs]
    · exact ⟨ix, iy, ne⟩
    · exact ⟨iy, ix, ne.symm⟩
  mem := fun m mm => by
    obtain ⟨a, b, x, y, h1, h2, ha, hb, hs⟩ := h.pl m mm
    have ix := List.mem_of_getElem? ha
    have iy := List.mem_of_getElem? hb
    rcases hs with hs | hs <;> rw [hs]
    · exact ⟨ix, iy⟩
    · exact ⟨iy, ix⟩
  nd := h.nd
theorem TiesOk.perm {zs : List Str} {T T' : List TieR} (h : TiesOk zs T) (p : T'.Perm T) : TiesOk zs T' :=
  ⟨by rw [p.length_eq]; exact h.few, fun m mm => h.nm m (p.mem_iff.mp mm), fun m mm => h.mem m (p.mem_iff.mp mm), (p.map _).nodup_iff.mpr h.nd⟩
theorem cut_from {α : Type} (f : α → V) (l : List α) (a : Nat) (h : a ≤ l.length) : cutV (l.map f) (some (a : Int)) none = (l.drop a).map f := by
  unfold cutV
  rw [HT.sIx_nat, HT.sIx_none, List.length_map, Nat.min_eq_left h, ← List.map_drop]
  exact List.take_of_length_le (by rw [List.length_map, List.length_drop]; omega)
theorem cut_to {α : Type} (f : α → V) (l : List α) (a : Nat) (h : a ≤ l.length) : cutV (l.map f) none (some (a : Int)) = (l.take a).map f := by
  unfold cutV
  rw [HT.sIx_nat, HT.sIx_none, List.length_map, Nat.min_eq_left h, List.drop_zero, Nat.sub_zero, ← List.map_take]
def spTiesL : Sp := fun vs H Q _ => ∃ (s nl : Addr) (zs : List Str) (sh : Int), vs = [.ref s, .ref nl, .int sh] ∧ Src H s ∧ H nl = some (.lst (zs.map V.str)) ∧ nl ≠ s ∧ zs.length ≤ 8 ∧ zs.Nodup ∧ (∀ z ∈ zs, nmB z = true) ∧ ∀ r T H', H r = none → Ties H' r T → TiesOk zs T → Dr s H H' → Q (.ref r) H'
theorem ok__law_ties {f : Addr} {fd : FuncData} (F : FnP K "_law_ties" s__law_ties f fd) (m_len : mg "len" = none) (m_range : mg "range" = none) (h__law_draw : Has P w K mg base 2 "_law_draw" ["_law_well_here", "_law_many"] spDraw) : FnOk P w K mg base CX0 3 f fd ["_law_well_here", "_law_names_here", "_law_share"] spTiesL := by
  refine F.ok sc__law_ties (fun vs H Q E h => ?_) (fun cdv A outer s0 H vs Q E hr h => ?_)
  · obtain ⟨s, nl, zs, sh, rfl, _⟩ := h; rfl
  obtain ⟨s, nl, zs, sh, rfl, hs, hn, nls, h8, nd, nm, qq⟩ := h
  refine ⟨_, PSs.nox (pss_cons (ps_set (i := 3) sc__law_ties.nd rfl (.inl rfl) (pe_lst pa_nil))
  (pss_cons (ps_for PassesOwn.never rfl (pi_range1 (by rfl) m_range (pa_cons (pe_callB (call_lenE K) (by rfl) m_len (by decide +kernel) (pa_cons (pv 1) pa_nil)) pa_nil)) (pg_name (i := 4) sc__law_ties.nd rfl (.inl rfl))
    (pss_one (ps_for PassesOwn.never rfl (pi_range1 (by rfl) m_range (pa_cons (pv 4) pa_nil)) (pg_name (i := 5) sc__law_ties.nd rfl (.inl rfl))
    (pss_one (ps_if (pt_cmpR op_lt (pe_callH h__law_draw (hr.mono (by decide)) (by rfl) (pa_cons (pv 0) (pa_cons pe_int pa_nil))) (pv 2) (nomark _))
    (pss_one (ps_expr (pe_bm PySem.F.plainAttrs_list PySem.F.slot_list_append PySem.F.type_list_append mt_append (pv 3) (pa_cons (pe_ix (ix_listE K) (pe_lst (pa_cons (pe_tup (pa_cons (pe_ix (ix_listE K) (pv 1) (pv 4) (fun _ _ => rfl)) (pa_cons (pe_ix (ix_listE K) (pv 1) (pv 5) (fun _ _ => rfl)) pa_nil))) (pa_cons (pe_tup (pa_cons (pe_ix (ix_listE K) (pv 1) (pv 5) (fun _ _ => rfl)) (pa_cons (pe_ix (ix_listE K) (pv 1) (pv 4) (fun _ _ => rfl)) pa_nil))) pa_nil))) (pe_callH h__law_draw (hr.mono (by decide)) (by rfl) (pa_cons (pv 0) (pa_cons pe_int pa_nil))) (fun _ _ => rfl)) pa_nil))))
    pss_nil)))))
  (pss_cons (ps_set (i := 6) sc__law_ties.nd rfl (.inl rfl) (pe_callH h__law_draw (hr.mono (by decide)) (by rfl) (pa_cons (pv 0) (pa_cons (pe_op op_add (pe_callB (call_lenE K) (by rfl) m_len (by decide +kernel) (pa_cons (pv 3) pa_nil)) pe_int) pa_nil))))
  (pss_one (ps_ret (pe_op op_cat (pe_slice (sl_listE K) (pv 3) (po_some (pv 6)) po_none) (pe_slice (sl_listE K) (pv 3) po_none (po_some (pv 6))))))))), ?_⟩
  walk_at "zz"
  refine z_new (by simp) (fun l1 H1 n1 e1 h1 => ?_)
  have l1s : l1 ≠ s := hs.ne n1
  have nl1 : nl ≠ l1 := ne_of_none hn n1
  walk_at "zz"
  refine z_lenL (SqL.of (e1 _ _ hn)) ?_
  walk_at "zz"
  rw [List.length_map]
  refine ⟨_, rfl, by omega, by omega, ?_⟩
  rw [show ((zs.length : Int)).toNat = zs.length by omega]
  refine for_range (lo := 0) (n := zs.length) (fun k σ H' => (∃ y1 y2 y3, σ = [some (.ref s), some (.ref nl), some (.int sh), some (.ref l1), y1, y2, y3]) ∧ (∀ b o, b ≠ s → b ≠ l1 → H b = some o → H' b = some o) ∧ Src H' s ∧ ∃ T : List TieR, Ties H' l1 T ∧ TInv zs T k 0) ⟨⟨_, _, _, rfl⟩, fun b o nb _ hb => e1 _ _ hb, hs.same e1, [], ⟨h1, fun m hm => absurd hm (by simp)⟩, fun m hm => absurd hm (by simp), List.nodup_nil, by simp⟩ ?_ ?_
  · rintro k σ H2 hk ⟨⟨y1, y2, y3, rfl⟩, k2, r2, T, t2, i2⟩
    walk_at "zz"
    refine ⟨_, rfl, by omega, by omega, ?_⟩
    rw [show ((0 : Int) + (k : Int)).toNat = k by omega]
    refine for_range (lo := 0) (n := k) (fun j σ H' => (∃ y2 y3, σ = [some (.ref s), some (.ref nl), some (.int sh), some (.ref l1), some (.int (0 + (k : Int))), y2, y3]) ∧ (∀ b o, b ≠ s → b ≠ l1 → H b = some o → H' b = some o) ∧ Src H' s ∧ ∃ T : List TieR, Ties H' l1 T ∧ TInv zs T k j) ⟨⟨_, _, rfl⟩, k2, r2, T, t2, i2⟩ ?_ ?_
    · rintro j σ H3 hj ⟨⟨y2, y3, rfl⟩, k3, r3, T, t3, i3⟩
      obtain ⟨x, hx⟩ : ∃ x, zs[k]? = some x := ⟨_, List.getElem?_eq_getElem hk⟩
      obtain ⟨y, hy⟩ : ∃ y, zs[j]? = some y := ⟨_, List.getElem?_eq_getElem (by omega)⟩
      have hx' : atI (zs.map V.str) (0 + (k : Int)) = some (.str x) := at_of (j := k) (by omega) (by rw [List.getElem?_map, hx]; rfl)
      have hy' : atI (zs.map V.str) (0 + (j : Int)) = some (.str y) := at_of (j := j) (by omega) (by rw [List.getElem?_map, hy]; rfl)
      walk_at "zz"
      refine ⟨s, _, rfl, by decide, by decide +kernel, r3, fun r4 H4 r40 r41 d4 => ?_⟩
      have keep4 : ∀ b o, b ≠ s → b ≠ l1 → H b = some o → H4 b = some o := fun b o nb nl hb => d4.keep _ _ nb (k3 b o nb nl hb)
      have t4 : Ties H4 l1 T := ⟨d4.keep _ _ l1s t3.lst, fun m hm => d4.tup (t3.tup m hm)⟩
      walk_at "zz"
      refine z_ite (fun h0 => ?_) (fun h0 => ?_)
      · walk_at "zz"
        refine ⟨.inl ⟨rfl, _, SqL.of t4.lst⟩, ?_⟩
        have hn4 := keep4 _ _ nls nl1 hn
        walk_at "zz"
        refine z_ixL (SqL.of hn4) hx' ?_
        walk_at "zz"
        refine z_ixL (SqL.of hn4) hy' ?_
        walk_at "zz"
        refine z_new (by simp) (fun p5 H5 n5 e5 h5 => ?_)
        walk_at "zz"
        refine z_ixL (SqL.of (e5 _ _ hn4)) hy' ?_
        walk_at "zz"
        refine z_ixL (SqL.of (e5 _ _ hn4)) hx' ?_
        walk_at "zz"
        refine z_new (by simp) (fun p6 H6 n6 e6 h6 => ?_)
        walk_at "zz"
        refine z_new (by simp) (fun p7 H7 n7 e7 h7 => ?_)
        have e47 : Same H4 H7 := e5.trans (e6.trans e7)
        walk_at "zz"
        refine ⟨s, _, rfl, by decide, by decide +kernel, d4.src.same e47, fun r8 H8 r80 r81 d8 => ?_⟩
        have h78 := d8.keep _ _ ((d4.src.same (e5.trans e6)).ne n7) h7
        have t8 : Ties H8 l1 T := ⟨d8.keep _ _ l1s (e47 _ _ t4.lst), fun m hm => d8.tup (e47 _ _ (t4.tup m hm))⟩
        have k8 : ∀ b o, b ≠ s → b ≠ l1 → H b = some o → H8 b = some o := fun b o nb nl hb => d8.keep _ _ nb (e47 _ _ (keep4 b o nb nl hb))
        have fin : ∀ {p : Addr} {u v : Str}, H8 p = some (.tup [.str u, .str v]) → ((u, v) = (x, y) ∨ (u, v) = (y, x)) → atI [V.ref p5, V.ref p6] r8 = some (.ref p) → (∃ T : List TieR, Ties (upd H8 l1 (.lst ((T.map fun m => V.ref m.1)))) l1 T ∧ TInv zs T k (j + 1) ∧ ∃ T0 : List TieR, T = T0 ++ [(p, u, v)] ∧ H8 l1 = some (.lst (T0.map fun m => V.ref m.1)) ∧ T0.length ≤ 100) := fun {p u v} hp hm ha => by
          have i9 := i3.snoc nd hj hx hy (p := p) hm
          have f9 := i3.few
          refine ⟨T ++ [(p, u, v)], ⟨upd_same, fun m mm => ?_⟩, i9, T, rfl, t8.lst, by omega⟩
          have tm : H8 m.1 = some (.tup [.str m.2.1, .str m.2.2]) := by
            rcases List.mem_append.mp mm with mm | mm
            · exact t8.tup m mm
            · rw [List.mem_singleton.mp mm]; exact hp
          rw [upd_ne (ne_of tm t8.lst (by intro z; cases z))]
          exact tm
        have two : ∃ p u v, H8 p = some (.tup [.str u, .str v]) ∧ ((u, v) = (x, y) ∨ (u, v) = (y, x)) ∧ atI [V.ref p5, V.ref p6] r8 = some (.ref p) := by
          rcases (show r8 = 0 ∨ r8 = 1 by omega) with rfl | rfl
          · exact ⟨p5, x, y, d8.tup (e7 _ _ (e6 _ _ h5)), .inl rfl, rfl⟩
          · exact ⟨p6, y, x, d8.tup (e7 _ _ h6), .inr rfl, rfl⟩
        obtain ⟨p, u, v, hp, hm, ha⟩ := two
        obtain ⟨T9, t9, i9, T0, rfl, l9, b9⟩ := fin hp hm ha
        refine z_ixL (SqL.of h78) ha ?_
        have eT : (T0 ++ [(p, u, v)]).map (fun m => V.ref m.1) = T0.map (fun m => V.ref m.1) ++ [.ref p] := by rw [List.map_append]; rfl
        rw [eT] at t9
        refine ⟨l1, _, _, rfl, rfl, l9, small1000 (by rw [List.length_map]; omega), ⟨_, _, rfl⟩, fun b o nb nl hb => by rw [upd_ne nl]; exact k8 b o nb nl hb, ?_, _, t9, i9⟩
        obtain ⟨a, b, c, hz⟩ := d8.src
        exact ⟨a, b, c, by rw [upd_ne l1s.symm]; exact hz⟩
      · walk_at "zz"
        exact ⟨⟨_, _, rfl⟩, keep4, d4.src, T, t4, i3.up (.inr ⟨rfl, by omega⟩) (by omega)⟩
    · rintro σ H3 ⟨⟨y2, y3, rfl⟩, k3, r3, T, t3, i3⟩
      exact ⟨⟨_, _, _, rfl⟩, k3, r3, T, t3, i3.up (.inl (by omega)) (by omega)⟩
  · rintro σ H2 ⟨⟨y1, y2, y3, rfl⟩, k2, r2, T, t2, i2⟩
    have ok := i2.ok h8 nd nm
    have few := ok.few
    walk_at "zz"
    refine z_lenL (SqL.of t2.lst) ?_
    walk_at "zz"
    rw [List.length_map]
    refine ⟨s, _, rfl, by omega, Nat.lt_of_le_of_lt (m := 1000) (by omega) (by decide +kernel), r2, fun r3 H3 r30 r31 d3 => ?_⟩
    obtain ⟨a3, rfl⟩ : ∃ j : Nat, r3 = (j : Int) := ⟨r3.toNat, by omega⟩
    have t3 : Ties H3 l1 T := ⟨d3.keep _ _ l1s t2.lst, fun m hm => d3.tup (t2.tup m hm)⟩
    walk_at "zz"
    refine z_slL (SqL.of t3.lst) (fun l4 H4 n4 e4 h4 => ?_)
    walk_at "zz"
    refine z_slL (SqL.of (e4 _ _ t3.lst)) (fun l5 H5 n5 e5 h5 => ?_)
    rw [cut_from _ _ _ (by omega)] at h4
    rw [cut_to _ _ _ (by omega)] at h5
    refine z_cat (e5 _ _ h4) h5 (by rw [List.length_map, List.length_map, List.length_drop, List.length_take]; omega) (fun l6 H6 n6 e6 h6 => ?_)
    rw [← List.map_append] at h6
    have pm : (T.drop a3 ++ T.take a3).Perm T := by
      have z : (T.drop a3 ++ T.take a3).Perm (T.take a3 ++ T.drop a3) := List.perm_append_comm
      rw [List.take_append_drop] at z
      exact z
    have e36 : Same H3 H6 := e4.trans (e5.trans e6)
    have back : ∀ b o, b ≠ s → H b = some o → H6 b = some o := fun b o nb hb => e36 _ _ (d3.keep _ _ nb (k2 b o nb (ne_of_none hb n1) hb))
    refine qq l6 _ H6 ?_ ⟨h6, fun m hm => e36 _ _ (t3.tup m (pm.mem_iff.mp hm))⟩ (ok.perm pm) ⟨back, d3.src.same e36, hs⟩
    cases e : H l6 with
    | none => rfl
    | some o =>
      have ns : l6 ≠ s := (d3.src.same (e4.trans e5)).ne n6
      have z := e5 _ _ (e4 _ _ (d3.keep _ _ ns (k2 _ o ns (ne_of_none e n1) e)))
      rw [n6] at z
      cases z
def spWebL : Sp := fun vs H Q _ => ∃ s, vs = [.ref s, .int 8] ∧ Src H s ∧ ∀ p h t L T n H', H' p = some (.tup [.ref h, .ref t]) → H h = none → Hands H' h L → H t = none → Ties H' t T → HandsOk L n → TiesOk (nmsOf L) T → Dr s H H' → Q (.ref p) H'
theorem dr_back {s a : Addr} {H H' : Hp} (d : Dr s H H') (n : H' a = none) : H a = none := by
  cases e : H a with
  | none => rfl
  | some o =>
    by_cases z : a = s
    · obtain ⟨x1, x2, x3, hz⟩ := d.src
      rw [z, hz] at n
      cases n
    · rw [d.keep _ _ z e] at n
      cases n
def WInv (s D : Addr) (H0 : Hp) (zs : List Str) (n i : Nat) (H' : Hp) : Prop := (∀ b o, b ≠ s → b ≠ D → H0 b = some o → H' b = some o) ∧ Src H' s ∧ ∃ L : List HandR, Hands H' D L ∧ nmsOf L = zs.take i ∧ L.length = i ∧ (∀ m ∈ L, m.2.2.2.length = n) ∧ ∀ m ∈ L, ∀ x ∈ m.2.2.2, inFar x = true
theorem ok__law_web {f : Addr} {fd : FuncData} (F : FnP K "_law_web" s__law_web f fd) (h__law_draw : Has P w K mg base 2 "_law_draw" ["_law_well_here", "_law_many"] spDraw) (h__law_names : Has P w K mg base 3 "_law_names" ["_law_well_here", "_law_many"] spNames) (h__law_numbers : Has P w K mg base 3 "_law_numbers" ["_law_well_here", "_law_size"] spNumbers) (h__law_ties : Has P w K mg base 3 "_law_ties" ["_law_well_here", "_law_names_here", "_law_share"] spTiesL) : FnOk P w K mg base CX0 4 f fd ["_law_well_here", "_law_most"] spWebL := by
  refine F.ok sc__law_web (fun vs H Q E h => ?_) (fun cdv A outer s0 H vs Q E hr h => ?_)
  · obtain ⟨s, rfl, _⟩ := h; rfl
  obtain ⟨s, rfl, hs, qq⟩ := h
  refine ⟨_, PSs.nox (pss_cons (ps_set (i := 2) sc__law_web.nd rfl (.inr rfl) (pe_op op_add pe_int (pe_callH h__law_draw (hr.mono (by decide)) (by rfl) (pa_cons (pv 0) (pa_cons pe_int pa_nil)))))
  (pss_cons (ps_set (i := 3) sc__law_web.nd rfl (.inl rfl) (pe_callH h__law_names (hr.mono (by decide)) (by rfl) (pa_cons (pv 0) (pa_cons (pe_op op_add pe_int (pe_callH h__law_draw (hr.mono (by decide)) (by rfl) (pa_cons (pv 0) (pa_cons (pv 1) pa_nil)))) pa_nil))))
  (pss_cons (ps_setLc (i := 4) (own := [("_law_name", 5)]) (g := (gName 5)) (by rfl) sc__law_web.nd rfl rfl (sw_true rfl rfl rfl (by decide +kernel)) (pi_listE K (pv 3)) (blkOk_by (own := [("_law_name", 5)]) (N := ["_law_well_here", "_law_most", "_law_size", "_law_names_here", "_law_hands", "_law_name"]) (sc := defScope s__law_web) (by decide +kernel)) (fun _ _ _ _ _ => (pg_name (i := 5) sc__law_web.nd rfl (.inl rfl))) (fun _ _ _ _ _ => pts_nil) (fun _ _ _ _ _ => (pe_tup (pa_cons (pv 5) (pa_cons (pe_callH h__law_numbers (hr.mono (by decide)) (by rfl) (pa_cons (pv 0) (pa_cons (pv 2) pa_nil))) pa_nil)))))
  (pss_one (ps_ret (pe_tup (pa_cons (pv 4) (pa_cons (pe_callH h__law_ties (hr.mono (by decide)) (by rfl) (pa_cons (pv 0) (pa_cons (pv 3) (pa_cons (pe_op op_add pe_int (pe_callH h__law_draw (hr.mono (by decide)) (by rfl) (pa_cons (pv 0) (pa_cons pe_int pa_nil)))) pa_nil)))) pa_nil)))))))), ?_⟩
  walk_at "zz"
  refine ⟨s, _, rfl, by decide, by decide +kernel, hs, fun r1 H1 r10 r11 d1 => ?_⟩
  obtain ⟨n1, rfl⟩ : ∃ j : Nat, r1 = (j : Int) := ⟨r1.toNat, by omega⟩
  refine z_I0 ?_
  rw [show (1 + (n1 : Int)) = ((1 + n1 : Nat) : Int) by omega]
  walk_at "zz"
  refine ⟨s, _, rfl, by decide, by decide +kernel, d1.src, fun r2 H2 r20 r21 d2 => ?_⟩
  obtain ⟨n2, rfl⟩ : ∃ j : Nat, r2 = (j : Int) := ⟨r2.toNat, by omega⟩
  refine z_I0 ?_
  rw [show (1 + (n2 : Int)) = ((1 + n2 : Nat) : Int) by omega]
  walk_at "zz"
  refine ⟨s, 1 + n2, rfl, by omega, d2.src, fun nl zs H3 nn hn ln nd nm d3 => ?_⟩
  have D3 := d1.trans (d2.trans d3)
  have nls : nl ≠ s := d2.src.ne nn
  walk_at "zz"
  show iList K _ _ _ _
  walk_at "zz"
  refine ⟨nl, rfl, ⟨_, SqL.of hn⟩, fun D nD => lc_list (xs := zs.map V.str) (WInv s D H3 zs (1 + n1)) ?_ ?_ ?_ ?_⟩
  · have Ds := d3.src.ne nD
    refine ⟨fun b o _ nb hb => by rw [upd_ne nb]; exact hb, ?_, [], ⟨upd_same, fun m hm => absurd hm (by simp), fun m hm => absurd hm (by simp)⟩, rfl, rfl, fun m hm => absurd hm (by simp), fun m hm => absurd hm (by simp)⟩
    obtain ⟨a, b, c, hz⟩ := d3.src
    exact ⟨a, b, c, by rw [upd_ne Ds.symm]; exact hz⟩
  · exact fun i H' _ hp => SqL.of (hp.1 _ _ nls (ne_of_none hn nD) hn)
  · rintro i x H4 hx ⟨k4, r4, L, h4, e4, l4, len4, far4⟩
    have Ds := d3.src.ne nD
    rw [List.getElem?_map] at hx
    obtain ⟨z, hz, rfl⟩ := Option.map_eq_some_iff.mp hx
    have il : i < zs.length := (List.getElem?_eq_some_iff.mp hz).1
    refine ⟨rfl, ?_⟩
    walk_at "zz"
    refine ⟨s, 1 + n1, rfl, by omega, r4, fun q5 ns H5 h5 ln5 far5 d5 => ?_⟩
    walk_at "zz"
    refine z_new (by simp) (fun p6 H6 n6 e6 h6 => ?_)
    have D6 : H6 D = some (.lst (L.map fun m => .ref m.1)) := e6 _ _ (d5.keep _ _ Ds h4.lst)
    have tD : ∀ {b : Addr} {xs : List V}, H6 b = some (.tup xs) → b ≠ D := fun hb => ne_of hb D6 (by intro z; cases z)
    have up : ∀ {b : Addr} {xs : List V} (o : HO), H6 b = some (.tup xs) → upd H6 D o b = some (.tup xs) := fun o hb => by rw [upd_ne (tD hb)]; exact hb
    refine ⟨_, D6, small1000 (by rw [List.length_map]; omega), fun b o nb nD' hb => by rw [upd_ne nD']; exact e6 _ _ (d5.keep _ _ nb (k4 b o nb nD' hb)), ?_, L ++ [(p6, z, q5, ns)], ⟨?_, ?_, ?_⟩, ?_, ?_, ?_, ?_⟩
    · obtain ⟨a, b, c, hz⟩ := d5.src.same e6
      exact ⟨a, b, c, by rw [upd_ne Ds.symm]; exact hz⟩
    · rw [upd_same, List.map_append]
      rfl
    · intro m mm
      rcases List.mem_append.mp mm with mm | mm
      · exact up _ (e6 _ _ (d5.tup (h4.tup m mm)))
      · rw [List.mem_singleton.mp mm]
        exact up _ h6
    · intro m mm
      rcases List.mem_append.mp mm with mm | mm
      · exact up _ (e6 _ _ (d5.tup (h4.num m mm)))
      · rw [List.mem_singleton.mp mm]
        exact up _ (e6 _ _ h5)
    · have en : nmsOf (L ++ [(p6, z, q5, ns)]) = nmsOf L ++ [z] := by
        show List.map _ _ = _
        rw [List.map_append]
        rfl
      rw [en, e4, List.take_add_one, hz]
      rfl
    · rw [List.length_append, l4]
      rfl
    · intro m mm
      rcases List.mem_append.mp mm with mm | mm
      · exact len4 m mm
      · rw [List.mem_singleton.mp mm]
        exact ln5
    · intro m mm
      rcases List.mem_append.mp mm with mm | mm
      · exact far4 m mm
      · rw [List.mem_singleton.mp mm]
        exact far5
  · rintro H4 ⟨k4, r4, L, h4, e4, l4, len4, far4⟩
    have Ds := d3.src.ne nD
    rw [List.length_map] at e4 l4
    rw [List.take_of_length_le (Nat.le_refl _)] at e4
    walk_at "zz"
    refine ⟨s, _, rfl, by decide, by decide +kernel, r4, fun r5 H5 r50 r51 d5 => ?_⟩
    walk_at "zz"
    have nlD : nl ≠ D := ne_of_none hn nD
    refine ⟨s, nl, zs, _, rfl, d5.src, d5.keep _ _ nls (k4 _ _ nls nlD hn), nls, by omega, nd, nm, fun r T H6 nr t6 ok6 d6 => ?_⟩
    walk_at "zz"
    refine z_new (by simp) (fun p7 H7 n7 e7 h7 => ?_)
    have d57 := d5.trans (d6.trans (Dr.of_same d6.src e7))
    have hands7 : Hands H7 D L := ⟨d57.keep _ _ Ds h4.lst, fun m mm => d57.tup (h4.tup m mm), fun m mm => d57.tup (h4.num m mm)⟩
    have d37 : Dr s H3 H7 := ⟨fun b o nb hb => d57.keep _ _ nb (k4 b o nb (ne_of_none hb nD) hb), d57.src, d3.src⟩
    have nr4 : H4 r = none := dr_back d5 nr
    have nr0 : H r = none := by
      cases e : H r with
      | none => rfl
      | some o =>
        have rs : r ≠ s := d5.src.ne nr
        have z := D3.keep _ _ rs e
        rw [k4 _ o rs (ne_of_none z nD) z] at nr4
        cases nr4
    refine qq p7 D r L T (1 + n1) H7 h7 (dr_back D3 nD) hands7 nr0 ⟨e7 _ _ t6.lst, fun m mm => e7 _ _ (t6.tup m mm)⟩ ⟨by omega, by omega, by omega, by omega, fun m mm => nm _ (by rw [← e4]; exact List.mem_map.mpr ⟨m, mm, rfl⟩), len4, far4, by show (nmsOf L).Nodup; rw [e4]; exact nd⟩ (by rw [e4]; exact ok6) (D3.trans d37)
/-! ### webs as data; webs turned about -/
theorem lay_all : ∀ {ds : List PyData} {n : Nat}, (∀ d ∈ ds, d.canLay0 = true ∧ d.depth ≤ n) → PyData.canLayAll0 ds = true ∧ PyData.depthAll ds ≤ n
  | [], _, _ => ⟨rfl, Nat.zero_le _⟩
  | d :: ds, n, h => by
    obtain ⟨h1, h2⟩ := h d (by simp)
    obtain ⟨h3, h4⟩ := lay_all (ds := ds) (n := n) fun e he => h e (List.mem_cons_of_mem _ he)
    refine ⟨?_, ?_⟩
    · show (PyData.canLay0 d && PyData.canLayAll0 ds) = true
      rw [h1, h3]
      rfl
    · show max (PyData.depth d) (PyData.depthAll ds) ≤ n
      omega
theorem lay_tup {ds : List PyData} {n : Nat} (h : ∀ d ∈ ds, d.canLay0 = true ∧ d.depth ≤ n) : (PyData.tuple ds).canLay0 = true ∧ (PyData.tuple ds).depth ≤ n + 1 := by
  obtain ⟨h1, h2⟩ := lay_all h
  exact ⟨h1, Nat.succ_le_succ h2⟩
theorem lay_lst {ds : List PyData} {n : Nat} (h : ∀ d ∈ ds, d.canLay0 = true ∧ d.depth ≤ n) : (PyData.list ds).canLay0 = true ∧ (PyData.list ds).depth ≤ n + 1 := by
  obtain ⟨h1, h2⟩ := lay_all h
  exact ⟨h1, Nat.succ_le_succ h2⟩
theorem sh_of {d : PyData} {n : Nat} (h : d.canLay0 = true ∧ d.depth ≤ n) (hn : n ≤ 64) : SeqAt.shaped d = true := by
  unfold SeqAt.shaped
  rw [h.1, decide_eq_true (Nat.le_trans h.2 hn)]
  rfl
theorem nm_strOk {z : Str} (h : nmB z = true) : (PyData.str z).canLay0 = true := by
  show PySem.PyData.strOk z = true
  unfold PySem.PyData.strOk
  unfold nmB at h
  rw [Bool.and_eq_true, Bool.and_eq_true] at h
  rw [← Array.all_toList, List.all_eq_true]
  intro c hc
  have := List.all_eq_true.mp h.2.2 c hc
  unfold smB at this
  rw [Bool.and_eq_true] at this
  have := of_decide_eq_true this.2
  exact decide_eq_true (by omega)
def handD (m : HandR) : PyData := .tuple [.str m.2.1, .tuple (m.2.2.2.map PyData.int)]
def tieD (m : TieR) : PyData := .tuple [.str m.2.1, .str m.2.2]
def webD (L : List HandR) (T : List TieR) : PyData := .tuple [.list (L.map handD), .list (T.map tieD)]
theorem dpAll_map {α : Type} {H : Hp} {f : α → V} {g : α → PyData} : ∀ {l : List α}, (∀ m ∈ l, Dp K H (f m) (g m)) → DpAll K H (l.map f) (l.map g)
  | [], _ => .nil
  | m :: l, h => .cons (h m (by simp)) (dpAll_map fun x hx => h x (List.mem_cons_of_mem _ hx))
theorem dp_ints {H : Hp} : ∀ ns : List Int, DpAll K H (ns.map V.int) (ns.map PyData.int)
  | [] => .nil
  | n :: ns => .cons (.int n) (dp_ints ns)
theorem Hands.dp {H : Hp} {h : Addr} {L : List HandR} (a : Hands H h L) : Dp K H (.ref h) (.list (L.map handD)) :=
  .lst (SqL.of a.lst) (dpAll_map fun m mm => .tup (SqT.of (a.tup m mm)) (.cons (.str _) (.cons (.tup (SqT.of (a.num m mm)) (dp_ints _)) .nil)))
theorem Ties.dp {H : Hp} {t : Addr} {T : List TieR} (a : Ties H t T) : Dp K H (.ref t) (.list (T.map tieD)) :=
  .lst (SqL.of a.lst) (dpAll_map fun m mm => .tup (SqT.of (a.tup m mm)) (.cons (.str _) (.cons (.str _) .nil)))
theorem lay_web {L : List HandR} {T : List TieR} {n : Nat} {zs : List Str} (okH : HandsOk L n) (okT : TiesOk zs T) : (webD L T).canLay0 = true ∧ (webD L T).depth ≤ 4 := by
  refine lay_tup fun d hd => ?_
  have rInts : ∀ ns : List Int, (PyData.tuple (ns.map PyData.int)).canLay0 = true ∧ (PyData.tuple (ns.map PyData.int)).depth ≤ 1 := fun ns => lay_tup (n := 0) fun e he => by
    obtain ⟨i, _, rfl⟩ := List.mem_map.mp he
    exact ⟨rfl, Nat.le_refl _⟩
  rcases List.mem_cons.mp hd with rfl | hd
  · refine lay_lst fun e he => ?_
    obtain ⟨m, mm, rfl⟩ := List.mem_map.mp he
    refine lay_tup fun e he => ?_
    rcases List.mem_cons.mp he with rfl | he
    · exact ⟨nm_strOk (okH.nm m mm), Nat.zero_le _⟩
    · rw [List.mem_singleton.mp he]
      exact rInts _
  · rw [List.mem_singleton.mp hd]
    obtain ⟨h1, h2⟩ := lay_lst (ds := T.map tieD) (n := 1) fun e he => by
      obtain ⟨m, mm, rfl⟩ := List.mem_map.mp he
      obtain ⟨n1, n2, _⟩ := okT.nm m mm
      refine lay_tup fun e he => ?_
      rcases List.mem_cons.mp he with rfl | he
      · exact ⟨nm_strOk n1, Nat.zero_le _⟩
      · rw [List.mem_singleton.mp he]
        exact ⟨nm_strOk n2, Nat.zero_le _⟩
    exact ⟨h1, by omega⟩
theorem z_neWeb {H : Hp} {Q : VK} {p q h t h' t' : Addr} {L : List HandR} {T : List TieR} {n : Nat} {zs : List Str} (okH : HandsOk L n) (okT : TiesOk zs T) (hp : H p = some (.tup [.ref h, .ref t])) (hh : Hands H h L) (ht : Ties H t T) (hq : H q = some (.tup [.ref h', .ref t'])) (hh' : Hands H h' L) (ht' : Ties H t' T) (k : Q (.bl false) H) : rNeD K (.ref p) (.ref q) H Q := by
  have ly := lay_web okH okT
  have s := sh_of ly (by decide)
  exact z_neD (.tup (SqT.of hp) (.cons hh.dp (.cons ht.dp .nil))) (.tup (SqT.of hq) (.cons hh'.dp (.cons ht'.dp .nil))) s s (SeqAt.eqv_refl _ ly.1) k
theorem tk2_comm (x y : Str) : tk2 y x = tk2 x y := by
  unfold tk2 lowS topS2 sLt
  rcases lex_tri x.cps.toList y.cps.toList with h | h | h
  · have n := lex_asym _ _ h
    rw [decide_eq_true h, decide_eq_false n]
    rfl
  · have e := str_ext h
    subst e
    rfl
  · have n := lex_asym _ _ h
    rw [decide_eq_true h, decide_eq_false n]
    rfl
theorem HandsOk.perm {L L' : List HandR} {n : Nat} (h : HandsOk L n) (p : L'.Perm L) : HandsOk L' n :=
  ⟨by rw [p.length_eq]; exact h.one, by rw [p.length_eq]; exact h.few, h.n1, h.n3, fun m mm => h.nm m (p.mem_iff.mp mm), fun m mm => h.len m (p.mem_iff.mp mm), fun m mm => h.far m (p.mem_iff.mp mm), (p.map _).nodup_iff.mpr h.nd⟩
theorem HandsOk.first {L : List HandR} {n : Nat} (h : HandsOk L n) : HandsOk (L.take 1) n := by
  have o := h.one
  have sub : ∀ m ∈ L.take 1, m ∈ L := fun m mm => List.mem_of_mem_take mm
  exact ⟨by rw [List.length_take]; omega, by rw [List.length_take]; omega, h.n1, h.n3, fun m mm => h.nm m (sub m mm), fun m mm => h.len m (sub m mm), fun m mm => h.far m (sub m mm), by rw [List.map_take]; exact List.Sublist.nodup (List.take_sublist _ _) h.nd⟩
theorem TiesOk.nil (zs : List Str) : TiesOk zs [] := ⟨by decide, fun m mm => absurd mm (by simp), fun m mm => absurd mm (by simp), List.nodup_nil⟩
theorem TiesOk.names {zs zs' : List Str} {T : List TieR} (h : TiesOk zs T) (e : ∀ z ∈ zs, z ∈ zs') : TiesOk zs' T := ⟨h.few, h.nm, fun m mm => ⟨e _ (h.mem m mm).1, e _ (h.mem m mm).2⟩, h.nd⟩
/-- each tie either way about -/
theorem TiesOk.swap {zs : List Str} {T T' : List TieR} (h : TiesOk zs T) (e : T'.map (fun m => m.2) = T.map fun m => (m.2.2, m.2.1)) : TiesOk zs T' := by
  have len : T'.length = T.length := by
    have := congrArg List.length e
    simpa using this
  have each : ∀ m ∈ T', ∃ m0 ∈ T, m.2 = (m0.2.2, m0.2.1) := fun m mm => by
    have : m.2 ∈ T'.map (fun m => m.2) := List.mem_map.mpr ⟨m, mm, rfl⟩
    rw [e] at this
    obtain ⟨m0, h0, e0⟩ := List.mem_map.mp this
    exact ⟨m0, h0, e0.symm⟩
  refine ⟨by rw [len]; exact h.few, fun m mm => ?_, fun m mm => ?_, ?_⟩
  · obtain ⟨m0, h0, e0⟩ := each m mm
    obtain ⟨a, b, c⟩ := h.nm m0 h0
    rw [e0]
    exact ⟨b, a, c.symm⟩
  · obtain ⟨m0, h0, e0⟩ := each m mm
    obtain ⟨a, b⟩ := h.mem m0 h0
    rw [e0]
    exact ⟨b, a⟩
  · have e2 : T'.map (fun m => tk2 m.2.1 m.2.2) = T.map fun m => tk2 m.2.1 m.2.2 := by
      have e3 : T'.map (fun m => tk2 m.2.1 m.2.2) = (T'.map (fun m => m.2)).map fun q => tk2 q.1 q.2 := by rw [List.map_map]; rfl
      rw [e3, e, List.map_map]
      refine List.map_congr_left fun m _ => ?_
      exact tk2_comm m.2.1 m.2.2
    rw [e2]
    exact h.nd
/-- a right web stands there -/
def GW (H : Hp) (p : Addr) : Prop := ∃ L T n, Web H p L T ∧ HandsOk L n ∧ TiesOk (nmsOf L) T
theorem GW.kp {H H' : Hp} {p : Addr} (g : GW H p) (k : Kp H H') : GW H' p := by
  obtain ⟨L, T, n, a, b, c⟩ := g
  exact ⟨L, T, n, a.kp k, b, c⟩
theorem gw_sp {Ps : List Addr} {H : Hp} {p : Addr} {Q : VK} {E : XK} (g : GW H p) (hT : TGs H Ps) (q : ∀ H2, Kc Ps H H2 → Q .non H2) : spWeb Ps [.ref p] H Q E := by
  obtain ⟨L, T, n, a, b, c⟩ := g
  exact ⟨p, L, T, n, rfl, a, b, c, hT, q⟩
theorem z_listL {H : Hp} {Q : VK} {p : Addr} {xs : List V} (h : H p = some (.lst xs)) (q : ∀ p' H', H p' = none → Same H H' → H' p' = some (.lst xs) → Q (.ref p') H') : rListK K [.ref p] H Q := ⟨p, xs, rfl, .inl (SqL.of h), fun p' hp => q p' _ hp (fun b u e => by rw [upd_ne (ne_of_none e hp)]; exact e) upd_same⟩
/-- ties turned about, one by one -/
def SwInv (D : Addr) (H0 : Hp) (T : List TieR) (i : Nat) (H' : Hp) : Prop := Same H0 H' ∧ ∃ T2 : List TieR, Ties H' D T2 ∧ T2.map (fun m => m.2) = (T.take i).map fun m => (m.2.2, m.2.1)
theorem TInv.ok2 {zs : List Str} {T : List TieR} {k j : Nat} (h : TInv zs T k j) (few : T.length < 60) (nd : zs.Nodup) (nm : ∀ z ∈ zs, nmB z = true) : TiesOk zs T := by
  have each : ∀ m ∈ T, ∃ x y, x ∈ zs ∧ y ∈ zs ∧ x ≠ y ∧ (m.2 = (x, y) ∨ m.2 = (y, x)) := fun m mm => by
    obtain ⟨a, b, x, y, h1, h2, ha, hb, hs⟩ := h.pl m mm
    refine ⟨x, y, List.mem_of_getElem? ha, List.mem_of_getElem? hb, fun e => ?_, hs⟩
    rw [e] at ha
    have := nd_ix nd ha hb
    omega
  refine ⟨few, fun m mm => ?_, fun m mm => ?_, h.nd⟩
  · obtain ⟨x, y, ix, iy, ne, hs | hs⟩ := each m mm <;> rw [hs]
    · exact ⟨nm x ix, nm y iy, ne⟩
    · exact ⟨nm y iy, nm x ix, ne.symm⟩
  · obtain ⟨x, y, ix, iy, ne, hs | hs⟩ := each m mm <;> rw [hs]
    · exact ⟨ix, iy⟩
    · exact ⟨iy, ix⟩
theorem TiesOk.sub {zs : List Str} {T T' : List TieR} (h : TiesOk zs T) (s : List.Sublist T' T) : TiesOk zs T' :=
  ⟨Nat.lt_of_le_of_lt s.length_le h.few, fun m mm => h.nm m (s.subset mm), fun m mm => h.mem m (s.subset mm), List.Sublist.nodup (s.map _) h.nd⟩
theorem erase_map {α : Type} (f : α → V) : ∀ (l : List α) (i : Nat), (l.map f).eraseIdx i = (l.eraseIdx i).map f
  | [], _ => rfl
  | _ :: _, 0 => rfl
  | x :: l, i + 1 => congrArg (f x :: ·) (erase_map f l i)
theorem nil_eqv (T : List TieR) : PyData.eqv (.list (T.map tieD)) (.list []) = T.isEmpty := by
  cases T with
  | nil => rfl
  | cons n r => simp [PyData.eqv, PyData.eqvAll]
theorem lay_ties {T : List TieR} {zs : List Str} (okT : TiesOk zs T) : SeqAt.shaped (.list (T.map tieD)) = true := by
  refine sh_of (n := 2) (lay_lst (n := 1) fun e he => ?_) (by decide)
  obtain ⟨m, mm, rfl⟩ := List.mem_map.mp he
  obtain ⟨n1, n2, _⟩ := okT.nm m mm
  refine lay_tup fun e he => ?_
  rcases List.mem_cons.mp he with rfl | he
  · exact ⟨nm_strOk n1, Nat.zero_le _⟩
  · rw [List.mem_singleton.mp he]
    exact ⟨nm_strOk n2, Nat.zero_le _⟩
def spRowT : Sp := fun vs H Q _ => ∃ (s nl : Addr) (zs : List Str), vs = [.ref s, .ref nl] ∧ Src H s ∧ H nl = some (.lst (zs.map V.str)) ∧ nl ≠ s ∧ 1 ≤ zs.length ∧ zs.length ≤ 8 ∧ zs.Nodup ∧ (∀ z ∈ zs, nmB z = true) ∧ ∀ (r : Addr) (T : List TieR) (H' : Hp), H r = none → Ties H' r T → TiesOk zs T → Dr s H H' → Q (.ref r) H'
theorem ok__law_row_of_ties {f : Addr} {fd : FuncData} (F : FnP K "_law_row_of_ties" s__law_row_of_ties f fd) (m_len : mg "len" = none) (m_range : mg "range" = none) (h__law_draw : Has P w K mg base 2 "_law_draw" ["_law_well_here", "_law_many"] spDraw) : FnOk P w K mg base CX0 3 f fd ["_law_well_here", "_law_names_here"] spRowT := by
  refine F.ok sc__law_row_of_ties (fun vs H Q E h => ?_) (fun cdv A outer s0 H vs Q E hr h => ?_)
  · obtain ⟨s, nl, zs, rfl, _⟩ := h; rfl
  obtain ⟨s, nl, zs, rfl, hs, hn, nls, h1, h8, nd, nm, qq⟩ := h
  refine ⟨_, PSs.nox (pss_cons (ps_set (i := 2) sc__law_row_of_ties.nd rfl (.inl rfl) (pe_callH h__law_draw (hr.mono (by decide)) (by rfl) (pa_cons (pv 0) (pa_cons (pe_callB (call_lenE K) (by rfl) m_len (by decide +kernel) (pa_cons (pv 1) pa_nil)) pa_nil))))
  (pss_cons (ps_set (i := 3) sc__law_row_of_ties.nd rfl (.inr rfl) (pe_op op_cat (pe_slice (sl_listE K) (pv 1) (po_some (pv 2)) po_none) (pe_slice (sl_listE K) (pv 1) po_none (po_some (pv 2)))))
  (pss_cons (ps_setLc (i := 4) (own := [("_law_k", 6)]) (g := (gName 6)) (by rfl) sc__law_row_of_ties.nd rfl rfl (sw_true rfl rfl rfl (by decide +kernel)) (pi_range1 (by rfl) m_range (pa_cons (pe_op op_sub (pe_callB (call_lenE K) (by rfl) m_len (by decide +kernel) (pa_cons (pv 3) pa_nil)) pe_int) pa_nil)) (blkOk_by (own := [("_law_k", 6)]) (N := ["_law_well_here", "_law_names_here", "_law_turn", "_law_order", "_law_found", "_law_at", "_law_k"]) (sc := defScope s__law_row_of_ties) (by decide +kernel)) (fun _ _ _ _ _ => (pg_name (i := 6) sc__law_row_of_ties.nd rfl (.inl rfl))) (fun _ _ _ _ _ => pts_nil) (fun _ _ _ _ _ => (pe_tup (pa_cons (pe_ix (ix_listE K) (pv 3) (pv 6) (fun _ _ => rfl)) (pa_cons (pe_ix (ix_listE K) (pv 3) (pe_op op_add (pv 6) pe_int) (fun _ _ => rfl)) pa_nil)))))
  (pss_cons (ps_if (PW.pt (pw_and (pt_cmpR (op_neDE K hr.units) (pv 4) (pe_lst pa_nil) (nomark _)) (pw_and1 (pt_cmpR op_eq (pe_callH h__law_draw (hr.mono (by decide)) (by rfl) (pa_cons (pv 0) (pa_cons pe_int pa_nil))) pe_int (nomark _)))))
    (pss_one (ps_expr (pe_bm PySem.F.plainAttrs_list PySem.F.slot_list_pop PySem.F.type_list_pop mt_popAt (pv 4) (pa_cons (pe_callH h__law_draw (hr.mono (by decide)) (by rfl) (pa_cons (pv 0) (pa_cons (pe_callB (call_lenE K) (by rfl) m_len (by decide +kernel) (pa_cons (pv 4) pa_nil)) pa_nil))) pa_nil))))
    pss_nil)
  (pss_cons (ps_set (i := 5) sc__law_row_of_ties.nd rfl (.inl rfl) (pe_callH h__law_draw (hr.mono (by decide)) (by rfl) (pa_cons (pv 0) (pa_cons (pe_op op_add (pe_callB (call_lenE K) (by rfl) m_len (by decide +kernel) (pa_cons (pv 4) pa_nil)) pe_int) pa_nil))))
  (pss_one (ps_ret (pe_op op_cat (pe_slice (sl_listE K) (pv 4) (po_some (pv 5)) po_none) (pe_slice (sl_listE K) (pv 4) po_none (po_some (pv 5))))))))))), ?_⟩
  walk_at "zz"
  refine z_lenL (SqL.of hn) ?_
  walk_at "zz"
  rw [List.length_map]
  refine ⟨s, _, rfl, by omega, Nat.lt_of_le_of_lt (m := 1000) (by omega) (by decide +kernel), hs, fun r1 H1 r10 r11 d1 => ?_⟩
  obtain ⟨a1, rfl⟩ : ∃ j : Nat, r1 = (j : Int) := ⟨r1.toNat, by omega⟩
  have hn1 := d1.keep _ _ nls hn
  walk_at "zz"
  refine z_slL (SqL.of hn1) (fun l2 H2 n2 e2 h2 => ?_)
  walk_at "zz"
  refine z_slL (SqL.of (e2 _ _ hn1)) (fun l3 H3 n3 e3 h3 => ?_)
  rw [cut_from _ _ _ (by omega)] at h2
  rw [cut_to _ _ _ (by omega)] at h3
  refine z_cat (e3 _ _ h2) h3 (by rw [List.length_map, List.length_map, List.length_drop, List.length_take]; omega) (fun lo H4 n4 e4 h4 => ?_)
  rw [← List.map_append] at h4
  have pm : (zs.drop a1 ++ zs.take a1).Perm zs := by
    have z : (zs.drop a1 ++ zs.take a1).Perm (zs.take a1 ++ zs.drop a1) := List.perm_append_comm
    rw [List.take_append_drop] at z
    exact z
  generalize zs.drop a1 ++ zs.take a1 = os at h4 pm
  have ol : os.length = zs.length := pm.length_eq
  have ond : os.Nodup := pm.nodup_iff.mpr nd
  have onm : ∀ z ∈ os, nmB z = true := fun z hz => nm z (pm.mem_iff.mp hz)
  have E4 : Same H1 H4 := e2.trans (e3.trans e4)
  have src4 := d1.src.same E4
  walk_at "zz"
  show iRng1 _ _ _ _
  walk_at "zz"
  refine z_lenL (SqL.of h4) ?_
  walk_at "zz"
  rw [List.length_map, ol]
  refine ⟨_, rfl, by omega, by omega, fun D nD => ?_⟩
  rw [show ((zs.length : Int) - 1).toNat = zs.length - 1 by omega]
  have Ds : D ≠ s := src4.ne nD
  refine lc_range (lo := 0) (n := zs.length - 1) (fun i H' => Same H4 H' ∧ ∃ T : List TieR, Ties H' D T ∧ T.length = i ∧ TInv os T (i + 1) i) ⟨same_upd nD, [], ⟨upd_same, fun m mm => absurd mm (by simp)⟩, rfl, fun m mm => absurd mm (by simp), List.nodup_nil, Nat.zero_le _⟩ ?_ ?_
  · rintro i H5 hi ⟨e5, T, t5, l5, i5⟩
    obtain ⟨x, hx⟩ : ∃ x, os[i + 1]? = some x := ⟨_, List.getElem?_eq_getElem (by omega)⟩
    obtain ⟨y, hy⟩ : ∃ y, os[i]? = some y := ⟨_, List.getElem?_eq_getElem (by omega)⟩
    have hx' : atI (os.map V.str) (0 + (i : Int) + 1) = some (.str x) := at_of (j := i + 1) (by omega) (by rw [List.getElem?_map, hx]; rfl)
    have hy' : atI (os.map V.str) (0 + (i : Int)) = some (.str y) := at_of (j := i) (by omega) (by rw [List.getElem?_map, hy]; rfl)
    refine ⟨rfl, ?_⟩
    walk_at "zz"
    refine z_ixL (SqL.of (e5 _ _ h4)) hy' ?_
    walk_at "zz"
    refine z_ixL (SqL.of (e5 _ _ h4)) hx' ?_
    walk_at "zz"
    refine z_new (by simp) (fun p6 H6 n6 e6 h6 => ?_)
    have hD := e6 _ _ t5.lst
    have up : ∀ {b : Addr} {xs : List V} (o : HO), H6 b = some (.tup xs) → upd H6 D o b = some (.tup xs) := fun o hb => by rw [upd_ne (ne_of hb hD (by intro z; cases z))]; exact hb
    refine ⟨_, hD, small1000 (by rw [List.length_map]; omega), fun b o hb => by rw [upd_ne (ne_of_none hb nD)]; exact e6 _ _ (e5 _ _ hb), T ++ [(p6, y, x)], ⟨?_, fun m mm => ?_⟩, by rw [List.length_append, l5]; rfl, (i5.snoc ond (by omega) hx hy (.inr rfl)).up (.inl (by omega)) (by omega)⟩
    · rw [upd_same, List.map_append]
      rfl
    · rcases List.mem_append.mp mm with mm | mm
      · exact up _ (e6 _ _ (t5.tup m mm))
      · rw [List.mem_singleton.mp mm]
        exact up _ h6
  · rintro H5 ⟨e5, T, t5, l5, i5⟩
    have ok5 : TiesOk zs T := (i5.ok2 (by omega) ond onm).names fun z hz => pm.mem_iff.mp hz
    have E5 : Same H1 H5 := E4.trans e5
    have src5 := d1.src.same E5
    have keep5 : ∀ b o, b ≠ s → H b = some o → H5 b = some o := fun b o nb hb => E5 _ _ (d1.keep _ _ nb hb)
    have back : H D = none := by
      cases e : H D with
      | none => rfl
      | some o =>
        rw [E4 _ _ (d1.keep _ _ Ds e)] at nD
        cases nD
    refine z_name ?_
    dsimp only
    with_reducible refine z_seq ?_
    with_reducible refine cutSt (t := tIfS _ _ _) (fun σ' H' => σ' = [some (.ref s), some (.ref nl), some (.int (a1 : Int)), some (.ref lo), some (.ref D), none, none] ∧ (∀ b o, b ≠ s → b ≠ D → H b = some o → H' b = some o) ∧ Src H' s ∧ ∃ T6, Ties H' D T6 ∧ TiesOk zs T6) (fun D' hD' _ _ _ => ?_) ?_
    · walk_at "zz"
      refine z_new (by simp) (fun l6 H6 n6 e6 h6 => ?_)
      have t6 := t5.kp (Kp.of_same e6)
      have keep6 : ∀ b o, b ≠ s → b ≠ D → H b = some o → H6 b = some o := fun b o nb _ hb => e6 _ _ (keep5 b o nb hb)
      refine z_neD (K := K) t6.dp (.lst (ds := []) (SqL.of h6) .nil) (lay_ties ok5) rfl (nil_eqv T) ?_
      cases hT : T with
      | nil =>
        rw [hT] at t6 ok5
        walk_at "zz"
        exact hD' _ _ ⟨rfl, keep6, src5.same e6, [], t6, ok5⟩
      | cons m0 T0 =>
        have hl : 0 < T.length := by rw [hT]; simp
        have emp : T.isEmpty = false := by rw [hT]; rfl
        rw [← hT, emp]
        walk_at "zz"
        refine ⟨s, _, rfl, by decide, by decide +kernel, src5.same e6, fun r7 H7 r70 r71 d7 => ?_⟩
        have t7 : Ties H7 D T := ⟨d7.keep _ _ Ds t6.lst, fun m hm => d7.tup (t6.tup m hm)⟩
        have keep7 : ∀ b o, b ≠ s → b ≠ D → H b = some o → H7 b = some o := fun b o nb nD hb => d7.keep _ _ nb (keep6 b o nb nD hb)
        walk_at "zz"
        refine z_ite (fun h0 => ?_) (fun h0 => ?_)
        · walk_at "zz"
          refine ⟨.inl ⟨rfl, _, SqL.of t7.lst⟩, ?_⟩
          walk_at "zz"
          refine z_lenL (SqL.of t7.lst) ?_
          walk_at "zz"
          rw [List.length_map]
          refine ⟨s, _, rfl, by omega, Nat.lt_of_le_of_lt (m := 1000) (by omega) (by decide +kernel), d7.src, fun r8 H8 r80 r81 d8 => ?_⟩
          have t8 : Ties H8 D T := ⟨d8.keep _ _ Ds t7.lst, fun m hm => d8.tup (t7.tup m hm)⟩
          have lt8 : r8.toNat < (T.map fun m => V.ref m.1).length := by rw [List.length_map]; omega
          refine ⟨D, _, r8, r8.toNat, _, rfl, rfl, t8.lst, by omega, by omega, seqIndex_of r80 (by rw [List.length_map]; omega), List.getElem?_eq_getElem lt8, ?_⟩
          walk_at "zz"
          have sub := List.eraseIdx_sublist T r8.toNat
          refine hD' _ _ ⟨rfl, fun b o nb nD hb => by rw [upd_ne nD]; exact d8.keep _ _ nb (keep7 b o nb nD hb), ?_, T.eraseIdx r8.toNat, ⟨by rw [upd_same, erase_map], fun m mm => ?_⟩, ok5.sub sub⟩
          · obtain ⟨a, b, c, hz⟩ := d8.src
            exact ⟨a, b, c, by rw [upd_ne Ds.symm]; exact hz⟩
          · have tm := t8.tup m (sub.subset mm)
            rw [upd_ne (ne_of tm t8.lst (by intro z; cases z))]
            exact tm
        · walk_at "zz"
          exact hD' _ _ ⟨rfl, keep7, d7.src, T, t7, ok5⟩
    · rintro σ' H6 ⟨rfl, k6, src6, T6, t6, ok6⟩
      have few := ok6.few
      walk_at "zz"
      refine z_lenL (SqL.of t6.lst) ?_
      walk_at "zz"
      rw [List.length_map]
      refine ⟨s, _, rfl, by omega, Nat.lt_of_le_of_lt (m := 1000) (by omega) (by decide +kernel), src6, fun r7 H7 r70 r71 d7 => ?_⟩
      obtain ⟨a7, rfl⟩ : ∃ j : Nat, r7 = (j : Int) := ⟨r7.toNat, by omega⟩
      have t7 : Ties H7 D T6 := ⟨d7.keep _ _ Ds t6.lst, fun m hm => d7.tup (t6.tup m hm)⟩
      walk_at "zz"
      refine z_slL (SqL.of t7.lst) (fun l8 H8 n8 e8 h8 => ?_)
      walk_at "zz"
      refine z_slL (SqL.of (e8 _ _ t7.lst)) (fun l9 H9 n9 e9 h9 => ?_)
      rw [cut_from _ _ _ (by omega)] at h8
      rw [cut_to _ _ _ (by omega)] at h9
      refine z_cat (e9 _ _ h8) h9 (by rw [List.length_map, List.length_map, List.length_drop, List.length_take]; omega) (fun lx Hx nx ex hx => ?_)
      rw [← List.map_append] at hx
      have pmT : (T6.drop a7 ++ T6.take a7).Perm T6 := by
        have z : (T6.drop a7 ++ T6.take a7).Perm (T6.take a7 ++ T6.drop a7) := List.perm_append_comm
        rw [List.take_append_drop] at z
        exact z
      have e7x : Same H7 Hx := e8.trans (e9.trans ex)
      have keepx : ∀ b o, b ≠ s → H b = some o → Hx b = some o := fun b o nb hb => e7x _ _ (d7.keep _ _ nb (k6 b o nb (ne_of_none hb back) hb))
      refine qq lx _ Hx ?_ ⟨hx, fun m hm => e7x _ _ (t7.tup m (pmT.mem_iff.mp hm))⟩ (ok6.perm pmT) ⟨keepx, d7.src.same e7x, hs⟩
      cases e : H lx with
      | none => rfl
      | some o =>
        have ns : lx ≠ s := (d7.src.same (e8.trans e9)).ne nx
        have z := e9 _ _ (e8 _ _ (d7.keep _ _ ns (k6 _ o ns (ne_of_none e back) e)))
        rw [nx] at z
        cases z
/-! ### sorted lists of texts, one -/
theorem lex_trans : ∀ a b c : List Nat, a < b → b < c → a < c
  | _, _, [], _, h => by cases h
  | [], _, _ :: _, _, _ => List.Lex.nil
  | _ :: _, [], _ :: _, h, _ => by cases h
  | x :: a, y :: b, z :: c, h, g => by
    cases h with
    | rel h =>
      cases g with
      | rel g => exact List.Lex.rel (Nat.lt_trans h g)
      | cons g => exact List.Lex.rel h
    | cons h =>
      cases g with
      | rel g => exact List.Lex.rel g
      | cons g => exact List.Lex.cons (lex_trans a b c h g)
theorem not_lt_trans {a b c : List Nat} (h : ¬ b < a) (g : ¬ c < b) : ¬ c < a := fun z => by
  rcases lex_tri a b with q | q | q
  · exact g (lex_trans _ _ _ z q)
  · rw [q] at z; exact g z
  · exact h q
theorem rise_all : ∀ (l : List Str) (p : Str), risingS p l = true → ∀ x ∈ l, ¬ x.cps.toList < p.cps.toList
  | [], _, _, x, hx => by cases hx
  | y :: l, p, h, x, hx => by
    unfold risingS at h
    rw [Bool.and_eq_true, ltCps_eq] at h
    have h1 : ¬ y.cps.toList < p.cps.toList := fun z => by rw [decide_eq_true z] at h; cases h.1
    rcases List.mem_cons.mp hx with rfl | hx
    · exact h1
    · exact not_lt_trans h1 (rise_all l y h.2 x hx)
theorem sorted_tail {x : Str} {l : List Str} (h : sortedS (x :: l) = true) : sortedS l = true := by
  cases l with
  | nil => rfl
  | cons y l =>
    have h : risingS x (y :: l) = true := h
    unfold risingS at h
    rw [Bool.and_eq_true] at h
    exact h.2
theorem sorted_one : ∀ {l m : List Str}, sortedS l = true → sortedS m = true → l.Perm m → l = m
  | [], m, _, _, p => by rw [List.nil_perm.mp p]
  | x :: l, [], _, _, p => by have := p.length_eq; simp at this
  | x :: l, y :: m, hl, hm, p => by
    have e : x = y := by
      have hx : x ∈ y :: m := p.mem_iff.mp (by simp)
      have hy : y ∈ x :: l := p.mem_iff.mpr (by simp)
      rcases List.mem_cons.mp hx with e | hx
      · exact e
      · rcases List.mem_cons.mp hy with e | hy
        · exact e.symm
        · have a1 := rise_all m y hm x hx
          have a2 := rise_all l x hl y hy
          rcases lex_tri x.cps.toList y.cps.toList with q | q | q
          · exact absurd q a1
          · exact str_ext q
          · exact absurd q a2
    subst e
    rw [sorted_one (sorted_tail hl) (sorted_tail hm) p.cons_inv]
theorem strs_eqv : ∀ ys ns : List Str, PyData.eqvAll (ys.map PyData.str) (ns.map PyData.str) = decide (ys = ns)
  | [], [] => rfl
  | [], _ :: _ => rfl
  | _ :: _, [] => rfl
  | y :: ys, n :: ns => by
    rw [List.map_cons, List.map_cons, PyData.eqvAll, strs_eqv ys ns]
    by_cases h : y = n <;> by_cases h' : ys = ns <;> simp [PyData.eqv, h, h']
theorem lay_strs {zs : List Str} (nm : ∀ z ∈ zs, nmB z = true) : SeqAt.shaped (.list (zs.map PyData.str)) = true := sh_of (n := 1) (lay_lst (n := 0) fun e he => by
  obtain ⟨z, hz, rfl⟩ := List.mem_map.mp he
  exact ⟨nm_strOk (nm z hz), Nat.le_refl _⟩) (by decide)
theorem dp_strs {H : Hp} {l : Addr} {zs : List Str} (h : H l = some (.lst (zs.map V.str))) : Dp K H (.ref l) (.list (zs.map PyData.str)) := .lst (SqL.of h) (dpAll_map fun z _ => .str z)
/-! ### a mark that spreads -/
def Clo (T : List TieR) (ms : List Str) : Prop := ∀ z y, z ∈ ms → Adj T z y → y ∈ ms
def Prog (T : List TieR) (r : Nat) (ms : List Str) : Prop := Clo T ms ∨ ∃ ds : List Str, ds.Nodup ∧ (∀ z ∈ ds, z ∈ ms) ∧ r + 1 ≤ ds.length
structure Mk (T : List TieR) (zs : List Str) (z0 : Str) (ms : List Str) : Prop where
  first : z0 ∈ ms
  sub : ∀ z ∈ ms, z ∈ zs
  least : ∀ S : Str → Prop, S z0 → (∀ z y, S z → Adj T z y → S y) → ∀ z ∈ ms, S z
theorem Mk.put {T : List TieR} {zs : List Str} {z0 : Str} {ms : List Str} (h : Mk T zs z0 ms) (okT : TiesOk zs T) {m : TieR} (mm : m ∈ T) (one : m.2.1 ∈ ms ∨ m.2.2 ∈ ms) : Mk T zs z0 (ms ++ [m.2.1, m.2.2]) := by
  refine ⟨List.mem_append_left _ h.first, fun z hz => ?_, fun S s0 st z hz => ?_⟩
  · rcases List.mem_append.mp hz with hz | hz
    · exact h.sub z hz
    · rcases List.mem_cons.mp hz with rfl | hz
      · exact (okT.mem m mm).1
      · rw [List.mem_singleton.mp hz]; exact (okT.mem m mm).2
  · have hl := h.least S s0 st
    have two : S m.2.1 ∧ S m.2.2 := by
      rcases one with o | o
      · exact ⟨hl _ o, st _ _ (hl _ o) ⟨m, mm, .inr ⟨rfl, rfl⟩⟩⟩
      · exact ⟨st _ _ (hl _ o) ⟨m, mm, .inl ⟨rfl, rfl⟩⟩, hl _ o⟩
    rcases List.mem_append.mp hz with hz | hz
    · exact hl z hz
    · rcases List.mem_cons.mp hz with rfl | hz
      · exact two.1
      · rw [List.mem_singleton.mp hz]; exact two.2
/-- within round r, behind the first i ties -/
def InR (T : List TieR) (r i : Nat) (ms : List Str) : Prop := (Prog T r ms ∧ ∀ m ∈ T.take i, (m.2.1 ∈ ms ↔ m.2.2 ∈ ms)) ∨ Prog T (r + 1) ms
theorem InR.same {T : List TieR} {r i : Nat} {ms : List Str} {m : TieR} (h : InR T r i ms) (hm : T[i]? = some m) (b : m.2.1 ∈ ms ↔ m.2.2 ∈ ms) : InR T r (i + 1) ms := by
  rcases h with ⟨h1, h2⟩ | h
  · refine .inl ⟨h1, fun k hk => ?_⟩
    rw [List.take_add_one, hm] at hk
    rcases List.mem_append.mp hk with hk | hk
    · exact h2 k hk
    · have e : k = m := by simpa using hk
      rw [e]; exact b
  · exact .inr h
theorem InR.more {T : List TieR} {r i : Nat} {ms : List Str} {m : TieR} (h : InR T r i ms) (mm : m ∈ T) (b : ¬ (m.2.1 ∈ ms ↔ m.2.2 ∈ ms)) : InR T r (i + 1) (ms ++ [m.2.1, m.2.2]) := by
  have nc : ¬ Clo T ms := fun c => b ⟨fun z => c _ _ z ⟨m, mm, .inr ⟨rfl, rfl⟩⟩, fun z => c _ _ z ⟨m, mm, .inl ⟨rfl, rfl⟩⟩⟩
  obtain ⟨x, hx, nx⟩ : ∃ x, x ∈ [m.2.1, m.2.2] ∧ x ∉ ms := by
    rcases Classical.em (m.2.1 ∈ ms) with h1 | h1
    · exact ⟨m.2.2, by simp, fun h2 => b ⟨fun _ => h2, fun _ => h1⟩⟩
    · exact ⟨m.2.1, by simp, h1⟩
  refine .inr (.inr ?_)
  rcases h with ⟨h | ⟨ds, nd, sub, le⟩, _⟩ | h | ⟨ds, nd, sub, le⟩
  · exact absurd h nc
  · exact ⟨x :: ds, List.nodup_cons.mpr ⟨fun z => nx (sub x z), nd⟩, fun z hz => by
      rcases List.mem_cons.mp hz with rfl | hz
      · exact List.mem_append_right _ hx
      · exact List.mem_append_left _ (sub z hz), by rw [List.length_cons]; omega⟩
  · exact absurd h nc
  · exact ⟨ds, nd, fun z hz => List.mem_append_left _ (sub z hz), le⟩
theorem InR.fin {T : List TieR} {r : Nat} {ms : List Str} (h : InR T r T.length ms) : Prog T (r + 1) ms := by
  rcases h with ⟨_, h2⟩ | h
  · rw [List.take_of_length_le (Nat.le_refl _)] at h2
    refine .inl fun z y hz a => ?_
    obtain ⟨m, mm, ⟨rfl, rfl⟩ | ⟨rfl, rfl⟩⟩ := a
    · exact (h2 m mm).mpr hz
    · exact (h2 m mm).mp hz
  · exact h
theorem Prog.clo {T : List TieR} {zs ms : List Str} (h : Prog T zs.length ms) (sub : ∀ z ∈ ms, z ∈ zs) : Clo T ms := by
  rcases h with h | ⟨ds, nd, s, le⟩
  · exact h
  · have := nodup_sub_len nd fun z hz => sub z (s z hz)
    omega
theorem perm_of_len {fs zs : List Str} (nf : fs.Nodup) (nz : zs.Nodup) (sub : ∀ z ∈ fs, z ∈ zs) (h : fs.length = zs.length) : ∀ z ∈ zs, z ∈ fs := fun z hz => by
  refine Classical.byContradiction fun no => ?_
  have := nodup_sub_len (l := z :: fs) (m := zs) (List.nodup_cons.mpr ⟨no, nf⟩) fun y hy => by
    rcases List.mem_cons.mp hy with rfl | hy
    · exact hz
    · exact sub y hy
  rw [List.length_cons] at this
  omega
theorem perm_nodup {l m : List Str} (nl : l.Nodup) (nm : m.Nodup) (h : ∀ z, z ∈ l ↔ z ∈ m) : l.Perm m := (List.perm_ext_iff_of_nodup nl nm).mpr h
theorem z_setTx {w' : World} {H : Hp} {Q : VK} {l : Addr} {xs : List Str} (h : H l = some (.lst (xs.map V.str))) (hn : xs.length < 1000) (q : ∀ (p : Addr) (zs : List Str) (H' : Hp), H p = none → Same H H' → H' p = some (SetTx w' p zs) → (∀ z, z ∈ zs ↔ z ∈ xs) → zs.Nodup → zs.length ≤ xs.length → Q (.ref p) H') : rSetTx K w' [.ref l] H Q :=
  ⟨l, xs, rfl, SqL.of h, hn, fun p zs np m nd le => q p zs _ np (same_upd np) upd_same m nd le⟩
theorem z_sortTx {w' : World} {H : Hp} {Q : VK} {a : Addr} {zs : List Str} (h : H a = some (SetTx w' a zs)) (hn : zs.length < 64) (q : ∀ (p : Addr) (ys : List Str) (H' : Hp), H p = none → Same H H' → H' p = some (.lst (ys.map V.str)) → ys.Perm zs → sortedS ys = true → Q (.ref p) H') : rSortTx w' [.ref a] H Q :=
  ⟨a, zs, rfl, h, hn, fun p ys np pm so => q p ys _ np (same_upd np) upd_same pm so⟩
theorem z_sortS {K' : PySem.W.Frag} {H : Hp} {Q : VK} {l : Addr} {zs : List Str} (h : H l = some (.lst (zs.map V.str))) (hn : zs.length < 64) (q : ∀ (p : Addr) (ys : List Str) (H' : Hp), H p = none → Same H H' → H' p = some (.lst (ys.map V.str)) → ys.Perm zs → sortedS ys = true → Q (.ref p) H') : rSortedS K' [.ref l] H Q :=
  ⟨l, zs, rfl, SqL.of h, hn, fun ys p pm so np => q p ys _ np (same_upd np) upd_same pm so⟩
def spIsW : Sp := fun vs H Q _ => ∃ (nl t : Addr) (zs : List Str) (T : List TieR) (z0 : Str), vs = [.ref nl, .ref t] ∧ H nl = some (.lst (zs.map V.str)) ∧ Ties H t T ∧ TiesOk zs T ∧ zs[0]? = some z0 ∧ zs.length ≤ 8 ∧ zs.Nodup ∧ (∀ z ∈ zs, nmB z = true) ∧ ∀ (fs : List Str) (H' : Hp), Reach T z0 fs → (∀ z ∈ fs, z ∈ zs) → Same H H' → Q (.bl (decide (fs.length = zs.length))) H'
theorem ok__law_is_whole {f : Addr} {fd : FuncData} (F : FnP K "_law_is_whole" s__law_is_whole f fd) (m_sorted : mg "sorted" = none) (m_set : mg "set" = none) : FnOk P w K mg base CX0 1 f fd ["_law_names_here", "_law_ties_here"] spIsW := by
  refine F.ok sc__law_is_whole (fun vs H Q E h => ?_) (fun cdv A outer s0 H vs Q E hr h => ?_)
  · obtain ⟨nl, t, zs, T, z0, rfl, _⟩ := h; rfl
  obtain ⟨nl, t, zs, T, z0, rfl, hn, ht, okT, hz0, h8, nd, nm, q⟩ := h
  have few := okT.few
  have z0m := List.mem_of_getElem? hz0
  have l1 : 1 ≤ zs.length := List.length_pos_of_mem z0m
  refine ⟨_, PSs.nox (pss_cons (ps_set (i := 2) sc__law_is_whole.nd rfl (.inl rfl) (pe_slice (sl_listE K) (pv 0) po_none (po_some pe_int)))
  (pss_cons (ps_for PassesOwn.never rfl (pi_listE K (pv 0)) (pg_name (i := 3) sc__law_is_whole.nd rfl (.inl rfl))
    (pss_one (ps_for PassesOwn.never rfl (pi_listE K (pv 1)) (pg_tup rfl (pgs_cons (pg_name (i := 4) sc__law_is_whole.nd rfl (.inl rfl)) (pgs_cons (pg_name (i := 5) sc__law_is_whole.nd rfl (.inl rfl)) pgs_nil)))
    (pss_one (ps_if (pt_cmpR op_ne (pe_cmpR (op_inE K) (pv 4) (pv 2) (by rfl)) (pe_cmpR (op_inE K) (pv 5) (pv 2) (by rfl)) (nomark _))
    (pss_one (ps_set (i := 2) sc__law_is_whole.nd rfl (.inl rfl) (pe_op op_cat (pv 2) (pe_lst (pa_cons (pv 4) (pa_cons (pv 5) pa_nil))))))
    pss_nil)))))
  (pss_one (ps_ret (pe_cmpR (op_eqDE K hr.units) (pe_callB (cr_sortTx rfl) (by rfl) m_sorted (by decide +kernel) (pa_cons (pe_callTy (cr_setTx rfl) (by rfl) m_set (by decide +kernel) (pa_cons (pv 2) pa_nil)) pa_nil)) (pe_callB cr_sortedS (by rfl) m_sorted (by decide +kernel) (pa_cons (pv 0) pa_nil)) (nomark _)))))), ?_⟩
  walk_at "zz"
  refine z_slL (SqL.of hn) (fun l1' H1 n1 e1 h1 => ?_)
  have c1 := cut_to V.str zs 1 l1
  have t1 : zs.take 1 = [z0] := by
    cases zs with
    | nil => cases hz0
    | cons a r => cases hz0; rfl
  have h1' : H1 l1' = some (.lst (([z0] : List Str).map V.str)) := by rw [h1, ← t1]; exact congrArg (fun z => some (HO.lst z)) c1
  walk_at "zz"
  refine ⟨nl, rfl, ⟨_, SqL.of (e1 _ _ hn)⟩, for_list (xs := zs.map V.str) (fun r σ H' => ∃ (lm : Addr) (ms : List Str) (y3 y4 y5 : Option V), σ = [some (.ref nl), some (.ref t), some (.ref lm), y3, y4, y5] ∧ Same H H' ∧ H' lm = some (.lst (ms.map V.str)) ∧ Mk T zs z0 ms ∧ Prog T r ms ∧ ms.length ≤ 1 + 118 * r) ⟨l1', [z0], _, _, _, rfl, e1, h1', ⟨by simp, fun z hz => by rw [List.mem_singleton.mp hz]; exact z0m, fun S s0 _ z hz => by rw [List.mem_singleton.mp hz]; exact s0⟩, .inr ⟨[z0], by simp, fun z hz => hz, by simp⟩, by simp⟩ (fun i σ H' _ h => by
    obtain ⟨_, _, _, _, _, _, e, _⟩ := h
    exact SqL.of (e _ _ hn)) ?_ ?_⟩
  · rintro r x σ H2 hx ⟨lm, ms, y3, y4, y5, rfl, e2, h2, mk, pg, lb⟩
    have hr8 : r < zs.length := by
      have := (List.getElem?_eq_some_iff.mp hx).1
      rwa [List.length_map] at this
    walk_at "zz"
    have ht2 := ht.kp (Kp.of_same e2)
    refine ⟨t, rfl, ⟨_, SqL.of ht2.lst⟩, for_list (xs := T.map fun m => V.ref m.1) (fun i σ H' => ∃ (lm : Addr) (ms : List Str) (y4 y5 : Option V), σ = [some (.ref nl), some (.ref t), some (.ref lm), some x, y4, y5] ∧ Same H H' ∧ H' lm = some (.lst (ms.map V.str)) ∧ Mk T zs z0 ms ∧ InR T r i ms ∧ ms.length ≤ 1 + 118 * r + 2 * i) ⟨lm, ms, _, _, rfl, e2, h2, mk, .inl ⟨pg, fun m mm => absurd mm (by simp)⟩, by omega⟩ (fun i σ H' _ h => by
      obtain ⟨_, _, _, _, _, e, _⟩ := h
      exact SqL.of (e _ _ ht.lst)) ?_ ?_⟩
    · rintro i v σ H3 hv ⟨lm, ms, y4, y5, rfl, e3, h3, mk, ir, lb3⟩
      obtain ⟨m, hm, mem, rfl⟩ := ties_at hv
      have il : i < T.length := (List.getElem?_eq_some_iff.mp hm).1
      walk_at "zz"
      refine z_gTup (SqT.of (e3 _ _ (ht.tup m mem))) rfl ?_
      walk_at "zz"
      refine z_inS h3 ?_
      walk_at "zz"
      refine z_inS h3 ?_
      walk_at "zz"
      refine z_nite (fun h => ?_) (fun h => ?_)
      · have b : ¬ (m.2.1 ∈ ms ↔ m.2.2 ∈ ms) := fun z => h (decide_eq_decide.mpr z)
        have one : m.2.1 ∈ ms ∨ m.2.2 ∈ ms := Classical.byContradiction fun z => b ⟨fun a => absurd (.inl a) z, fun a => absurd (.inr a) z⟩
        walk_at "zz"
        refine z_new (by simp) (fun l4 H4 n4 e4 h4 => ?_)
        have h4' : H4 l4 = some (.lst (([m.2.1, m.2.2] : List Str).map V.str)) := h4
        refine z_cat (e4 _ _ h3) h4' (by rw [List.length_map, List.length_map]; simp only [List.length_cons, List.length_nil]; omega) (fun l5 H5 n5 e5 h5 => ?_)
        rw [← List.map_append] at h5
        walk_at "zz"
        exact ⟨l5, _, _, _, rfl, e3.trans (e4.trans e5), h5, mk.put okT mem one, ir.more mem b, by rw [List.length_append]; simp only [List.length_cons, List.length_nil]; omega⟩
      · walk_at "zz"
        exact ⟨lm, ms, _, _, rfl, e3, h3, mk, ir.same hm (decide_eq_decide.mp h), by omega⟩
    · rintro σ H3 ⟨lm, ms, y4, y5, rfl, e3, h3, mk, ir, lb3⟩
      rw [List.length_map] at ir lb3
      exact ⟨lm, ms, _, _, _, rfl, e3, h3, mk, ir.fin, by omega⟩
  · rintro σ H2 ⟨lm, ms, y3, y4, y5, rfl, e2, h2, mk, pg, lb⟩
    rw [List.length_map] at pg lb
    have clo := pg.clo mk.sub
    walk_at "zz"
    refine z_setTx h2 (by omega) (fun p3 fs H3 n3 e3 h3 m3 nd3 l3 => ?_)
    have rc : Reach T z0 fs := ⟨nd3, (m3 z0).mpr mk.first, fun z hz y hy => (m3 y).mpr (clo z y ((m3 z).mp hz) hy), fun S s0 st z hz => mk.least S s0 st z ((m3 z).mp hz)⟩
    have sub : ∀ z ∈ fs, z ∈ zs := fun z hz => mk.sub z ((m3 z).mp hz)
    have fl := nodup_sub_len nd3 sub
    walk_at "zz"
    refine z_sortTx h3 (by omega) (fun p4 ys H4 n4 e4 h4 pm4 so4 => ?_)
    have E4 : Same H H4 := e2.trans (e3.trans e4)
    walk_at "zz"
    refine z_sortS (E4 _ _ hn) (by omega) (fun p5 ns H5 n5 e5 h5 pm5 so5 => ?_)
    have nmy : ∀ z ∈ ys, nmB z = true := fun z hz => nm z (sub z (pm4.mem_iff.mp hz))
    have nmn : ∀ z ∈ ns, nmB z = true := fun z hz => nm z (pm5.mem_iff.mp hz)
    refine z_eqD (K := K) (dp_strs (e5 _ _ h4)) (dp_strs h5) (lay_strs nmy) (lay_strs nmn) rfl ?_
    refine bool_bl ?_ (q fs H5 rc sub (E4.trans e5))
    show PyData.eqvAll (ys.map PyData.str) (ns.map PyData.str) = _
    rw [strs_eqv]
    refine decide_eq_decide.mpr ⟨fun e => ?_, fun e => ?_⟩
    · rw [← pm4.length_eq, ← pm5.length_eq, e]
    · have all := perm_of_len nd3 nd sub e
      exact sorted_one so4 so5 (pm4.trans ((perm_nodup nd3 nd fun z => ⟨sub z, all z⟩).trans pm5.symm))
def spLaw (K : PySem.W.Frag) (P1 P2 P3 P4 : Addr) : Sp := fun vs H Q _ => ∃ (a : Addr) (ns : List Int), vs = [.ref a] ∧ SqL K H a (ns.map V.int) ∧ ns.length ≤ 63 ∧ GxR.TabG H P1 ∧ GxR.TabG H P2 ∧ GxR.TabG H P3 ∧ GxR.TabG H P4 ∧ ∀ H', Q (.bl true) H'
theorem cells {ns : List Int} (lo hi : Option Int) (hl : ns.length ≤ 63) : ∃ cs : List Int, cutV (ns.map V.int) lo hi = cs.map V.int ∧ cs.length ≤ 63 := by
  refine ⟨(ns.drop (HT.sIx (ns.map V.int).length 0 lo)).take (HT.sIx (ns.map V.int).length (ns.map V.int).length hi - HT.sIx (ns.map V.int).length 0 lo), ?_, ?_⟩
  · unfold cutV
    rw [List.map_take, List.map_drop]
  · rw [List.length_take, List.length_drop]
    omega
theorem cell_at {cs : List Int} {i : Nat} {v : V} (hv : (cs.map V.int)[i]? = some v) : ∃ c : Int, v = .int c := by
  rw [List.getElem?_map] at hv
  obtain ⟨c, _, e⟩ := Option.map_eq_some_iff.mp hv
  exact ⟨c, e.symm⟩
/-- is_whole tells this truth of the web at p -/
def WAns (H : Hp) (p : Addr) (b : Bool) : Prop := ∃ L T n, Web H p L T ∧ HandsOk L n ∧ TiesOk (nmsOf L) T ∧ ∀ (m : HandR) (fs : List Str), L[0]? = some m → Reach T m.2.1 fs → (∀ z ∈ fs, z ∈ nmsOf L) → decide (fs.length = L.length) = b
theorem WAns.kp {H H' : Hp} {p : Addr} {b : Bool} (g : WAns H p b) (k : Kp H H') : WAns H' p b := by
  obtain ⟨L, T, n, a, r⟩ := g
  exact ⟨L, T, n, a.kp k, r⟩
theorem wa_sp {Ps : List Addr} {H : Hp} {p : Addr} {b : Bool} {Q : VK} {E : XK} (g : WAns H p b) (hT : TGs H Ps) (q : ∀ H2, Kc Ps H H2 → Q (.bl b) H2) : spWholeWeb Ps [.ref p] H Q E := by
  obtain ⟨L, T, n, a, o1, o2, ans⟩ := g
  exact ⟨p, L, T, n, rfl, a, o1, o2, hT, fun m fs H2 hm rc sub c => bool_bl (ans m fs hm rc sub) (q H2 c)⟩
theorem reach_len {T : List TieR} {z0 : Str} {fs fs' : List Str} (a : Reach T z0 fs) (b : Reach T z0 fs') : fs.length = fs'.length := (perm_nodup a.nd b.nd (reach_one a b)).length_eq
/-- from one that is come to, all are come to -/
theorem reach_back {T : List TieR} {a b : Str} {fs fs' : List Str} (ra : Reach T a fs) (rb : Reach T b fs') (hb : b ∈ fs) : ∀ z ∈ fs, z ∈ fs' := by
  have ha : a ∈ fs' := Classical.byContradiction fun no => by
    have out := ra.least (fun z => z ∉ fs') no (fun z y hz adj hy => hz (rb.closed y hy z adj.symm)) b hb
    exact out rb.first
  exact ra.least (· ∈ fs') ha fun z y hz adj => rb.closed z hz y adj
theorem whole_sym {T : List TieR} {a b : Str} {fs fs' zs : List Str} (ra : Reach T a fs) (rb : Reach T b fs') (sa : ∀ z ∈ fs, z ∈ zs) (sb : ∀ z ∈ fs', z ∈ zs) (ha : a ∈ zs) (hb : b ∈ zs) (nd : zs.Nodup) : fs.length = zs.length ↔ fs'.length = zs.length := by
  have key : ∀ {a b : Str} {fs fs' : List Str}, Reach T a fs → Reach T b fs' → (∀ z ∈ fs, z ∈ zs) → (∀ z ∈ fs', z ∈ zs) → b ∈ zs → fs.length = zs.length → fs'.length = zs.length := fun {a b fs fs'} ra rb sa sb hb e => by
    have all := perm_of_len ra.nd nd sa e
    have l1 := nodup_sub_len rb.nd sb
    have l2 := nodup_sub_len nd fun z hz => reach_back ra rb (all b hb) z (all z hz)
    omega
  exact ⟨key ra rb sa sb hb, key rb ra sb sa ha⟩
theorem adj_swap {T T' : List TieR} (e : T'.map (fun m => m.2) = T.map fun m => (m.2.2, m.2.1)) : Adj T' = Adj T := by
  have one : ∀ {T T' : List TieR}, T'.map (fun m => m.2) = T.map (fun m => (m.2.2, m.2.1)) → ∀ z y, Adj T' z y → Adj T z y := fun {T T'} e z y h => by
    obtain ⟨m, mm, h⟩ := h
    have : m.2 ∈ T'.map (fun m => m.2) := List.mem_map.mpr ⟨m, mm, rfl⟩
    rw [e] at this
    obtain ⟨k, hk, ek⟩ := List.mem_map.mp this
    rw [← ek] at h
    exact ⟨k, hk, h.symm⟩
  have e2 : T.map (fun m => m.2) = T'.map fun m => (m.2.2, m.2.1) := by
    have z := congrArg (List.map fun q : Str × Str => (q.2, q.1)) e
    rw [List.map_map, List.map_map] at z
    exact z.symm
  funext z y
  exact propext ⟨one e z y, one e2 z y⟩
theorem reach_nil {z0 : Str} {fs : List Str} (r : Reach [] z0 fs) : fs.length = 1 := by
  have h1 := nodup_sub_len (m := [z0]) r.nd fun z hz => by
    have : z = z0 := r.least (· = z0) rfl (fun z y _ a => by obtain ⟨m, mm, _⟩ := a; cases mm) z hz
    rw [this]; simp
  have h2 := List.length_pos_of_mem r.first
  simp only [List.length_cons, List.length_nil] at h1
  omega
theorem ok_law {f P1 P2 P3 P4 : Addr} {fd : FuncData} (F : FnP K "law" s_law f fd) (m_list : mg "list" = none) (m_isinstance : mg "isinstance" = none) (m_bool : mg "bool" = none) (m_len : mg "len" = none) (h_is_whole : Has P w K mg base 15 "is_whole" ["web"] (spWholeWeb [P1, P2, P3, P4]))
    (h__law_cell_at : Has P w K mg base 1 "_law_cell_at" ["_law_script", "_law_k"] (spCell K)) (h__law_well : Has P w K mg base 1 "_law_well" ["_law_cell"] (spBegin K)) (h__law_draw : Has P w K mg base 2 "_law_draw" ["_law_well_here", "_law_many"] spDraw) (h__law_web : Has P w K mg base 4 "_law_web" ["_law_well_here", "_law_most"] spWebL)
    (h__law_row_of_ties : Has P w K mg base 3 "_law_row_of_ties" ["_law_well_here", "_law_names_here"] spRowT) (h__law_is_whole : Has P w K mg base 1 "_law_is_whole" ["_law_names_here", "_law_ties_here"] spIsW) : FnOk P w K mg base CX0 16 f fd ["_law_script"] (spLaw K P1 P2 P3 P4) := by
  refine F.ok sc_law (fun vs H Q E h => ?_) (fun cdv A outer s H vs Q E hr h => ?_)
  · obtain ⟨a, ns, rfl, _⟩ := h; rfl
  obtain ⟨a, ns, rfl, hS, hlen, hT1, hT2, hT3, hT4, q⟩ := h
  have hT : TGs H [P1, P2, P3, P4] := fun P' hP => by
    simp only [List.mem_cons, List.not_mem_nil, or_false] at hP
    rcases hP with rfl | rfl | rfl | rfl <;> assumption
  refine ⟨_, PSs.nox (pss_cons (ps_for PassesOwn.never rfl (pi_listE K (pe_op op_cat (pe_lst (pa_cons (pe_callH h__law_cell_at (hr.mono (by decide)) (by rfl) (pa_cons (pv 0) (pa_cons pe_int pa_nil))) pa_nil)) (pe_slice (sl_listE K) (pv 0) (po_some pe_int) (po_some pe_int)))) (pg_name (i := 1) sc_law.nd rfl (.inl rfl))
    (pss_cons (ps_set (i := 2) sc_law.nd rfl (.inl rfl) (pe_callH h__law_well (hr.mono (by decide)) (by rfl) (pa_cons (pv 1) pa_nil)))
  (pss_cons (ps_asg (pe_callH h__law_web (hr.mono (by decide)) (by rfl) (pa_cons (pv 2) (pa_cons pe_int pa_nil))) (pg_tup rfl (pgs_cons (pg_name (i := 3) sc_law.nd rfl (.inl rfl)) (pgs_cons (pg_name (i := 4) sc_law.nd rfl (.inl rfl)) pgs_nil))))
  (pss_cons (ps_setLc (i := 5) (own := [("_law_hand", 10)]) (g := (gName 10)) (by rfl) sc_law.nd rfl rfl (sw_true rfl rfl rfl (by decide +kernel)) (pi_listE K (pv 3)) (blkOk_by (own := [("_law_hand", 10)]) (N := ["_law_script", "_law_cell", "_law_well_here", "_law_hands", "_law_ties_here", "_law_names_here", "_law_kept", "_law_due", "_law_web_here", "_law_told", "_law_hand", "_law_tie"]) (sc := defScope s_law) (by decide +kernel)) (fun _ _ _ _ _ => (pg_name (i := 10) sc_law.nd rfl (.inl rfl))) (fun _ _ _ _ _ => pts_nil) (fun _ _ _ _ _ => (pe_ix (ix_tupE K) (pv 10) pe_int (fun _ _ => rfl))))
  (pss_cons (ps_if (pt_cmpR op_eq (pe_callH h__law_draw (hr.mono (by decide)) (by rfl) (pa_cons (pv 2) (pa_cons pe_int pa_nil))) pe_int (nomark _))
    (pss_one (ps_set (i := 4) sc_law.nd rfl (.inl rfl) (pe_callH h__law_row_of_ties (hr.mono (by decide)) (by rfl) (pa_cons (pv 2) (pa_cons (pv 5) pa_nil)))))
    pss_nil)
  (pss_cons (ps_set (i := 6) sc_law.nd rfl (.inl rfl) (pe_tup (pa_cons (pe_callTy (call_listE K) (by rfl) m_list (by decide +kernel) (pa_cons (pv 3) pa_nil)) (pa_cons (pe_callTy (call_listE K) (by rfl) m_list (by decide +kernel) (pa_cons (pv 4) pa_nil)) pa_nil))))
  (pss_cons (ps_set (i := 7) sc_law.nd rfl (.inl rfl) (pe_callH h__law_is_whole (hr.mono (by decide)) (by rfl) (pa_cons (pv 5) (pa_cons (pv 4) pa_nil))))
  (pss_cons (ps_for PassesOwn.never rfl (pi_listE K (pe_lst (pa_cons (pe_tup (pa_cons (pv 3) (pa_cons (pv 4) pa_nil))) (pa_cons (pe_tup (pa_cons (pe_revLE K (pv 3)) (pa_cons (pe_lc (own := [("_law_tie", 11)]) (g := (gName 11)) (by rfl) sc_law.nd (pi_listE K (pv 4)) (blkOk_by (own := [("_law_tie", 11)]) (N := ["_law_script", "_law_cell", "_law_well_here", "_law_hands", "_law_ties_here", "_law_names_here", "_law_kept", "_law_due", "_law_web_here", "_law_told", "_law_hand", "_law_tie"]) (sc := defScope s_law) (by decide +kernel)) (fun _ _ _ _ _ => (pg_name (i := 11) sc_law.nd rfl (.inl rfl))) (fun _ _ _ _ _ => pts_nil) (fun _ _ _ _ _ => (pe_rev2E K (pv 11)))) pa_nil))) pa_nil)))) (pg_name (i := 8) sc_law.nd rfl (.inl rfl))
    (pss_cons (ps_set (i := 9) sc_law.nd rfl (.inl rfl) (pe_callH h_is_whole (hr.mono (by decide)) (by rfl) (pa_cons (pv 8) pa_nil)))
  (pss_one (ps_if (PW.pt (pw_or (pt_not (pt_val (pe_callB (call_isiE K) (by rfl) m_isinstance (by decide +kernel) (pa_cons (pv 9) (pa_cons (pe_bltn (v := .ty "bool") (by rfl) m_bool (by decide +kernel) rfl) pa_nil))))) (pw_or1 (pt_cmpR op_ne (pv 9) (pv 7) (nomark _)))))
    (pss_one (ps_ret pe_bl))
    pss_nil))))
  (pss_one (ps_if (PW.pt (pw_or (pt_cmpR (op_neDE K hr.units) (pe_tup (pa_cons (pv 3) (pa_cons (pv 4) pa_nil))) (pv 6) (nomark _)) (pw_or1 (pt_cmpR op_ne (pe_callH h_is_whole (hr.mono (by decide)) (by rfl) (pa_cons (pe_tup (pa_cons (pv 3) (pa_cons (pe_lst pa_nil) pa_nil))) pa_nil)) (pe_cmpR op_eq (pe_callB (call_lenE K) (by rfl) m_len (by decide +kernel) (pa_cons (pv 3) pa_nil)) pe_int (nomark _)) (nomark _)))))
    (pss_one (ps_ret pe_bl))
    pss_nil))))))))))
  (pss_one (ps_ret (pe_cmpR op_isBl (pe_callH h_is_whole (hr.mono (by decide)) (by rfl) (pa_cons (pe_tup (pa_cons (pe_lst (pa_cons (pe_tup (pa_cons pe_str (pa_cons (pe_tup (pa_cons pe_int pa_nil)) pa_nil))) (pa_cons (pe_tup (pa_cons pe_str (pa_cons (pe_tup (pa_cons pe_int pa_nil)) pa_nil))) (pa_cons (pe_tup (pa_cons pe_str (pa_cons (pe_tup (pa_cons pe_int pa_nil)) pa_nil))) pa_nil)))) (pa_cons (pe_lst (pa_cons (pe_tup (pa_cons pe_str (pa_cons pe_str pa_nil))) (pa_cons (pe_tup (pa_cons pe_str (pa_cons pe_str pa_nil))) pa_nil))) pa_nil))) pa_nil)) pe_bl (nomark _))))), ?_⟩
  walk_at "zz"
  refine ⟨a, ns, 0, rfl, hS, hlen, fun c0 => ?_⟩
  walk_at "zz"
  refine z_new (by simp) (fun p1 H1 n1 s1 h1 => ?_)
  walk_at "zz"
  refine z_slL (s1.seq hS) (fun p2 H2 n2 s2 h2 => ?_)
  obtain ⟨cs, hcs, hcl⟩ := cells (some 1) (some 30) hlen
  rw [hcs] at h2
  refine z_cat (s2 _ _ h1) h2 (by simp; omega) (fun p3 H3 n3 s3 h3 => ?_)
  have e3 := s1.trans (s2.trans s3)
  refine ⟨p3, rfl, ⟨_, SqL.of h3⟩, for_list (xs := (c0 :: cs).map V.int) (fun i σ H' => (∃ y1 y2 y3 y4 y5 y6 y7 y8 y9 y10 y11, σ = [some (.ref a), y1, y2, y3, y4, y5, y6, y7, y8, y9, y10, y11]) ∧ H' p3 = some (.lst ((c0 :: cs).map V.int)) ∧ TGs H' [P1, P2, P3, P4]) ⟨⟨_, _, _, _, _, _, _, _, _, _, _, rfl⟩, h3, hT.same e3⟩ (fun i σ H' _ h => SqL.of h.2.1) ?_ ?_⟩
  · rintro i v σ H4 hv ⟨⟨y1, y2, y3, y4, y5, y6, y7, y8, y9, y10, y11, rfl⟩, h4, t4⟩
    obtain ⟨c, rfl⟩ := cell_at hv
    walk_at "zz"
    refine ⟨c, rfl, fun s5 H5 n5 e5 r5 => ?_⟩
    have h5 := e5 _ _ h4
    have ne5 : p3 ≠ s5 := ne_of_none h4 n5
    walk_at "zz"
    refine ⟨s5, rfl, r5, fun pw h t L T n H6 hp nh hh nt ht okH okT d6 => ?_⟩
    have hs5 : h ≠ s5 := r5.ne nh
    have ts5 : t ≠ s5 := r5.ne nt
    have t6 := (t4.same e5).dr d6
    have h6 := d6.keep _ _ ne5 h5
    have o1 := okH.one
    have o8 := okH.few
    obtain ⟨m0, hm0⟩ : ∃ m, L[0]? = some m := ⟨_, List.getElem?_eq_getElem (by omega)⟩
    have mem0 := List.mem_of_getElem? hm0
    have nmL : ∀ z ∈ nmsOf L, nmB z = true := fun z hz => by
      obtain ⟨m, mm, rfl⟩ := List.mem_map.mp hz
      exact okH.nm m mm
    have lenL : (nmsOf L).length = L.length := List.length_map ..
    walk_at "zz"
    refine z_gTup (SqT.of hp) rfl ?_
    walk_at "zz"
    show iList K _ _ _ _
    walk_at "zz"
    refine ⟨h, rfl, ⟨_, SqL.of hh.lst⟩, fun D nD => lc_list (xs := L.map fun m => V.ref m.1) (fun i H' => Same H6 H' ∧ H' D = some (.lst (((nmsOf L).take i).map V.str))) ⟨same_upd nD, upd_same⟩ (fun i H' _ hp => SqL.of (hp.1 _ _ hh.lst)) ?_ ?_⟩
    · rintro i x H7 hx ⟨e7, hD⟩
      obtain ⟨m, hm, mem, rfl⟩ := hands_at hx
      have zi : (nmsOf L)[i]? = some m.2.1 := by rw [List.getElem?_map, hm]; rfl
      refine ⟨rfl, ?_⟩
      walk_at "zz"
      refine z_ixT (SqT.of (e7 _ _ (hh.tup m mem))) rfl ?_
      refine ⟨_, hD, small1000 (by rw [List.length_map, List.length_take, lenL]; omega), fun b o hb => by rw [upd_ne (ne_of_none hb nD)]; exact e7 _ _ hb, ?_⟩
      rw [upd_same, List.take_add_one, zi, List.map_append]
      rfl
    · rintro H7 ⟨e7, hD7⟩
      have et : (nmsOf L).take (L.map fun m => V.ref m.1).length = nmsOf L := List.take_of_length_le (by rw [List.length_map, List.length_map]; exact Nat.le_refl _)
      rw [et] at hD7
      have Ds : D ≠ s5 := d6.src.ne nD
      have hh7 := hh.kp (Kp.of_same e7)
      have ht7 := ht.kp (Kp.of_same e7)
      refine z_name ?_
      dsimp only
      with_reducible refine z_seq ?_
      with_reducible refine cutSt (t := tIfS _ _ _) (fun σ' H' => ∃ (t' : Addr) (T' : List TieR), σ' = [some (.ref a), some (.int c), some (.ref s5), some (.ref h), some (.ref t'), some (.ref D), y6, y7, y8, y9, y10, y11] ∧ Hands H' h L ∧ Ties H' t' T' ∧ TiesOk (nmsOf L) T' ∧ H' D = some (.lst ((nmsOf L).map V.str)) ∧ H' p3 = some (.lst ((c0 :: cs).map V.int)) ∧ TGs H' [P1, P2, P3, P4]) (fun D' hD' _ _ _ => ?_) ?_
      · walk_at "zz"
        refine ⟨s5, _, rfl, by decide, by decide +kernel, d6.src.same e7, fun r8 H8 r80 r81 d8 => ?_⟩
        have hh8 : Hands H8 h L := ⟨d8.keep _ _ hs5 hh7.lst, fun m mm => d8.tup (hh7.tup m mm), fun m mm => d8.tup (hh7.num m mm)⟩
        have hD8 := d8.keep _ _ Ds hD7
        have h38 := d8.keep _ _ ne5 (e7 _ _ h6)
        have t8 := (t6.same e7).dr d8
        walk_at "zz"
        refine z_ite (fun h0 => ?_) (fun h0 => ?_)
        · walk_at "zz"
          refine ⟨s5, D, nmsOf L, rfl, d8.src, hD8, Ds, by omega, by omega, okH.nd, nmL, fun r T9 H9 nr t9 ok9 d9 => ?_⟩
          walk_at "zz"
          exact hD' _ _ ⟨r, T9, rfl, ⟨d9.keep _ _ hs5 hh8.lst, fun m mm => d9.tup (hh8.tup m mm), fun m mm => d9.tup (hh8.num m mm)⟩, t9, ok9, d9.keep _ _ Ds hD8, d9.keep _ _ ne5 h38, t8.dr d9⟩
        · walk_at "zz"
          exact hD' _ _ ⟨t, T, rfl, hh8, ⟨d8.keep _ _ ts5 ht7.lst, fun m mm => d8.tup (ht7.tup m mm)⟩, okT, hD8, h38, t8⟩
      · rintro σ' Ha ⟨t', T', rfl, hha, hta, oka, hDa, h3a, tga⟩
        walk_at "zz"
        refine z_listL hha.lst (fun l7 Hb nb eb hb => ?_)
        walk_at "zz"
        refine z_listL (eb _ _ hta.lst) (fun l8 Hc nc ec hc => ?_)
        walk_at "zz"
        refine z_new (by simp) (fun l9 Hd nd ed hd => ?_)
        have Ed : Same Ha Hd := eb.trans (ec.trans ed)
        walk_at "zz"
        have z0L : (nmsOf L)[0]? = some m0.2.1 := by rw [List.getElem?_map, hm0]; rfl
        refine ⟨D, t', nmsOf L, T', m0.2.1, rfl, Ed _ _ hDa, hta.kp (Kp.of_same Ed), oka, z0L, by omega, okH.nd, nmL, fun fs He rc sub ee => ?_⟩
        rw [lenL]
        have Ee : Same Ha He := Ed.trans ee
        generalize hbd : decide (fs.length = L.length) = due
        walk_at "zz"
        refine z_new (by simp) (fun l10 Hf nf ef hf => ?_)
        walk_at "zz"
        refine z_revL ?_
        walk_at "zz"
        refine ⟨h, _, rfl, SqL.of (ef _ _ (Ee _ _ hha.lst)), fun l11 n11 => ?_⟩
        have e11 := same_upd (o := .lst (L.map fun m => V.ref m.1).reverse) n11
        have h11 : upd Hf l11 (.lst (L.map fun m => V.ref m.1).reverse) l11 = _ := upd_same
        generalize upd Hf l11 (.lst (L.map fun m => V.ref m.1).reverse) = H11 at e11 h11 ⊢
        rw [← List.map_reverse] at h11
        have E11 : Same Ha H11 := Ee.trans (ef.trans e11)
        have few := oka.few
        walk_at "zz"
        show iList K _ _ _ _
        walk_at "zz"
        refine ⟨t', rfl, ⟨_, SqL.of (E11 _ _ hta.lst)⟩, fun D2 nD2 => lc_list (xs := T'.map fun m => V.ref m.1) (SwInv D2 H11 T') ⟨same_upd nD2, [], ⟨upd_same, fun m mm => absurd mm (by simp)⟩, rfl⟩ (fun i H' _ hp => SqL.of (hp.1 _ _ (E11 _ _ hta.lst))) ?_ ?_⟩
        · rintro i x H12 hx ⟨e12, T2, t12, m12⟩
          obtain ⟨m, hm, mem, rfl⟩ := ties_at hx
          refine ⟨rfl, ?_⟩
          walk_at "zz"
          refine z_rev2 ?_
          walk_at "zz"
          refine ⟨m.1, _, _, rfl, SqT.of (e12 _ _ (E11 _ _ (hta.tup m mem))), fun p13 n13 => ?_⟩
          have e13 := same_upd (o := .tup [.str m.2.2, .str m.2.1]) n13
          have h13 : upd H12 p13 (.tup [.str m.2.2, .str m.2.1]) p13 = _ := upd_same
          generalize upd H12 p13 (.tup [.str m.2.2, .str m.2.1]) = H13 at e13 h13 ⊢
          have il : i < T'.length := (List.getElem?_eq_some_iff.mp hm).1
          have l2 : T2.length ≤ i := by
            have := congrArg List.length m12
            rw [List.length_map, List.length_map, List.length_take] at this
            omega
          have hD := e13 _ _ t12.lst
          have up : ∀ {b : Addr} {xs : List V} (o : HO), H13 b = some (.tup xs) → upd H13 D2 o b = some (.tup xs) := fun o hb => by rw [upd_ne (ne_of hb hD (by intro z; cases z))]; exact hb
          refine ⟨_, hD, small1000 (by rw [List.length_map]; omega), fun b o hb => by rw [upd_ne (ne_of_none hb nD2)]; exact e13 _ _ (e12 _ _ hb), T2 ++ [(p13, m.2.2, m.2.1)], ⟨?_, fun m' mm => ?_⟩, ?_⟩
          · rw [upd_same, List.map_append]
            rfl
          · rcases List.mem_append.mp mm with mm | mm
            · exact up _ (e13 _ _ (t12.tup m' mm))
            · rw [List.mem_singleton.mp mm]
              exact up _ h13
          · rw [List.map_append, m12, List.take_add_one, hm, List.map_append]
            rfl
        · rintro H12 ⟨e12, T2, t12, m12⟩
          rw [List.length_map, List.take_of_length_le (Nat.le_refl _)] at m12
          walk_at "zz"
          refine z_new (by simp) (fun l13 H13 n13 e13 h13 => ?_)
          walk_at "zz"
          refine z_new (by simp) (fun l14 H14 n14 e14 h14 => ?_)
          have E14 : Same Ha H14 := E11.trans (e12.trans (e13.trans e14))
          have a12 : Same H12 H14 := e13.trans e14
          have a11 : Same H11 H14 := e12.trans a12
          have af : Same Hf H14 := e11.trans a11
          have ae : Same He H14 := ef.trans af
          have ad : Same Hd H14 := ee.trans ae
          have ac : Same Hc H14 := ed.trans ad
          have ab : Same Hb H14 := ec.trans ac
          have k14 := Kp.of_same E14
          have hh14 := hha.kp k14
          have ht14 := hta.kp k14
          have tg14 := tga.same E14
          have g1 : WAns H14 l10 due := ⟨L, T', n, ⟨h, t', af _ _ hf, hh14, ht14⟩, okH, oka, fun m fs' hm' rc' sub' => by
            rw [hm0] at hm'
            cases hm'
            rw [reach_len rc' rc]
            exact hbd⟩
          have lenR : L.reverse.length = L.length := List.length_reverse
          have g2 : WAns H14 l13 due := ⟨L.reverse, T2, n, ⟨l11, D2, e14 _ _ h13, ⟨a11 _ _ h11, fun m mm => hh14.tup m (List.mem_reverse.mp mm), fun m mm => hh14.num m (List.mem_reverse.mp mm)⟩, t12.kp (Kp.of_same a12)⟩, okH.perm (List.reverse_perm L),
            (oka.swap m12).names fun z hz => by
              rw [show nmsOf L.reverse = (nmsOf L).reverse from List.map_reverse ..]
              exact List.mem_reverse.mpr hz, fun m fs' hm' rc' sub' => by
            have rcT : Reach T' m.2.1 fs' := by
              unfold Reach at rc' ⊢
              rw [← adj_swap m12]
              exact rc'
            have mL : m.2.1 ∈ nmsOf L := List.mem_map.mpr ⟨m, List.mem_reverse.mp (List.mem_of_getElem? hm'), rfl⟩
            have sub2 : ∀ z ∈ fs', z ∈ nmsOf L := fun z hz => by
              have := sub' z hz
              rw [show nmsOf L.reverse = (nmsOf L).reverse from List.map_reverse ..] at this
              exact List.mem_reverse.mp this
            have sy := whole_sym rc rcT sub sub2 (List.mem_of_getElem? z0L) mL okH.nd
            have lN : (List.map (fun m : HandR => m.2.1) L).length = L.length := List.length_map ..
            rw [← hbd, lenR]
            refine decide_eq_decide.mpr ⟨fun e => ?_, fun e => ?_⟩
            · exact (sy.mpr (e.trans lN.symm)).trans lN
            · exact (sy.mp (e.trans lN.symm)).trans lN⟩
          refine ⟨l14, rfl, ⟨_, SqL.of h14⟩, for_list (xs := [.ref l10, .ref l13]) (fun i σ H' => (∃ y8 y9 y10 y11, σ = [some (.ref a), some (.int c), some (.ref s5), some (.ref h), some (.ref t'), some (.ref D), some (.ref l9), some (.bl due), y8, y9, y10, y11]) ∧ Kc [P1, P2, P3, P4] H14 H') ⟨⟨_, _, _, _, rfl⟩, Kc.refl tg14⟩ (fun i σ H' _ h => SqL.of (h.2.kp.lst h14)) ?_ ?_⟩
          · rintro j x σ H15 hx ⟨⟨y8, y9, y10, y11, rfl⟩, c15⟩
            have gx : ∃ p, x = .ref p ∧ WAns H14 p due := by
              match j, hx with
              | 0, hx => cases hx; exact ⟨_, rfl, g1⟩
              | 1, hx => cases hx; exact ⟨_, rfl, g2⟩
              | j + 2, hx => simp at hx
            obtain ⟨p, rfl, g⟩ := gx
            walk_at "zz"
            refine wa_sp (g.kp c15.kp) c15.tg (fun H16 c16 => ?_)
            walk_at "zz"
            refine z_isi (n := "bool") (k := true) (.base (.bl due)) (by decide +kernel) ?_
            walk_at "zz"
            rw [decide_eq_true (show due = due from rfl)]
            walk_at "zz"
            exact ⟨⟨_, _, _, _, rfl⟩, c15.trans c16⟩
          · rintro σ H15 ⟨⟨y8, y9, y10, y11, rfl⟩, c15⟩
            walk_at "zz"
            refine z_new (by simp) (fun l16 H16 n16 e16 h16 => ?_)
            have k16 : Kp H14 H16 := c15.kp.trans (Kp.of_same e16)
            have tg16 := c15.tg.same e16
            have hl7 : Hands H14 l7 L := ⟨ab _ _ hb, hh14.tup, hh14.num⟩
            have hl8 : Ties H14 l8 T' := ⟨ac _ _ hc, ht14.tup⟩
            walk_at "zz"
            refine z_neWeb okH oka h16 (hh14.kp k16) (ht14.kp k16) (k16.tup (ad _ _ hd)) (hl7.kp k16) (hl8.kp k16) ?_
            walk_at "zz"
            refine z_new (by simp) (fun l17 H17 n17 e17 h17 => ?_)
            walk_at "zz"
            refine z_new (by simp) (fun l18 H18 n18 e18 h18 => ?_)
            have e68 := e17.trans e18
            have k18 : Kp H14 H18 := k16.trans (Kp.of_same e68)
            have g3 : WAns H18 l18 (decide (L.length = 1)) := ⟨L, [], n, ⟨h, l17, h18, hh14.kp k18, ⟨e18 _ _ h17, fun m mm => absurd mm (by simp)⟩⟩, okH, .nil _, fun m fs' _ rc' _ => by
              rw [reach_nil rc']
              exact decide_eq_decide.mpr ⟨Eq.symm, Eq.symm⟩⟩
            walk_at "zz"
            refine wa_sp g3 (tg16.same e68) (fun H19 c19 => ?_)
            walk_at "zz"
            have hh19 := (hh14.kp k18).kp c19.kp
            refine z_lenL (SqL.of hh19.lst) ?_
            walk_at "zz"
            rw [List.length_map, decide_eq_decide.mpr (show ((L.length : Int) = 1 ↔ L.length = 1) by omega), decide_eq_true (show decide (L.length = 1) = decide (L.length = 1) from rfl)]
            walk_at "zz"
            exact ⟨⟨_, _, _, _, _, _, _, _, _, _, _, rfl⟩, c19.kp.lst (k18.lst (E14 _ _ h3a)), c19.tg⟩
  · rintro σ H4 ⟨⟨y1, y2, y3, y4, y5, y6, y7, y8, y9, y10, y11, rfl⟩, h4, t4⟩
    walk_at "zz"
    refine z_new (by simp) (fun q1 G1 m1 e1 g1 => ?_)
    walk_at "zz"
    refine z_new (by simp) (fun b1 G2 m2 e2 g2 => ?_)
    walk_at "zz"
    refine z_new (by simp) (fun q2 G3 m3 e3 g3 => ?_)
    walk_at "zz"
    refine z_new (by simp) (fun b2 G4 m4 e4 g4 => ?_)
    walk_at "zz"
    refine z_new (by simp) (fun q3 G5 m5 e5 g5 => ?_)
    walk_at "zz"
    refine z_new (by simp) (fun b3 G6 m6 e6 g6 => ?_)
    walk_at "zz"
    refine z_new (by simp) (fun lh G7 m7 e7 g7 => ?_)
    walk_at "zz"
    refine z_new (by simp) (fun r1 G8 m8 e8 g8 => ?_)
    walk_at "zz"
    refine z_new (by simp) (fun r2 G9 m9 e9 g9 => ?_)
    walk_at "zz"
    refine z_new (by simp) (fun lt G10 m10 e10 g10 => ?_)
    walk_at "zz"
    refine z_new (by simp) (fun pw G11 m11 e11 g11 => ?_)
    walk_at "zz"
    have a10 : Same G10 G11 := e11
    have a9 : Same G9 G11 := e10.trans a10
    have a8 : Same G8 G11 := e9.trans a9
    have a7 : Same G7 G11 := e8.trans a8
    have a6 : Same G6 G11 := e7.trans a7
    have a5 : Same G5 G11 := e6.trans a6
    have a4 : Same G4 G11 := e5.trans a5
    have a3 : Same G3 G11 := e4.trans a4
    have a2 : Same G2 G11 := e3.trans a3
    have a1 : Same G1 G11 := e2.trans a2
    have okH : HandsOk [(b1, ("b" : Str), q1, [0]), (b2, ("a" : Str), q2, [0]), (b3, ("c" : Str), q3, [0])] 1 := by
      have all : ∀ m ∈ [(b1, ("b" : Str), q1, ([0] : List Int)), (b2, ("a" : Str), q2, [0]), (b3, ("c" : Str), q3, [0])], (m.2.1 = "b" ∨ m.2.1 = "a" ∨ m.2.1 = "c") ∧ m.2.2.2 = [0] := fun m mm => by
        simp only [List.mem_cons, List.not_mem_nil, or_false] at mm
        rcases mm with rfl | rfl | rfl
        · exact ⟨.inl rfl, rfl⟩
        · exact ⟨.inr (.inl rfl), rfl⟩
        · exact ⟨.inr (.inr rfl), rfl⟩
      refine ⟨by simp, by simp, by decide, by decide, fun m mm => ?_, fun m mm => ?_, fun m mm x hx => ?_, ?_⟩
      · rcases (all m mm).1 with e | e | e <;> rw [e] <;> decide +kernel
      · rw [(all m mm).2]; rfl
      · rw [(all m mm).2] at hx
        rw [List.mem_singleton.mp hx]
        decide +kernel
      · show (["b", "a", "c"] : List Str).Nodup
        decide +kernel
    have okT : TiesOk (["b", "a", "c"] : List Str) [(r1, ("a" : Str), ("c" : Str)), (r2, ("c" : Str), ("b" : Str))] := by
      have nd : (["b", "a", "c"] : List Str).Nodup := by decide +kernel
      have nm : ∀ z ∈ (["b", "a", "c"] : List Str), nmB z = true := by decide +kernel
      have i0 : TInv (["b", "a", "c"] : List Str) [] 2 0 := ⟨fun m mm => absurd mm (by simp), List.nodup_nil, by simp⟩
      have i1 := i0.snoc nd (by decide) (x := "c") (y := "b") rfl rfl (p := r2) (u := "c") (v := "b") (.inl rfl)
      have i2 := i1.snoc nd (by decide) (x := "c") (y := "a") rfl rfl (p := r1) (u := "a") (v := "c") (.inr rfl)
      exact (i2.ok2 (by simp) nd nm).perm (List.Perm.swap _ _ _)
    have g : WAns G11 pw true := by
      refine ⟨[(b1, ("b" : Str), q1, [0]), (b2, ("a" : Str), q2, [0]), (b3, ("c" : Str), q3, [0])], [(r1, ("a" : Str), ("c" : Str)), (r2, ("c" : Str), ("b" : Str))], 1, ⟨lh, lt, g11, ⟨a7 _ _ g7, fun m mm => ?_, fun m mm => ?_⟩, ⟨a10 _ _ g10, fun m mm => ?_⟩⟩, okH, okT, fun m fs hm rc sub => ?_⟩
      · simp only [List.mem_cons, List.not_mem_nil, or_false] at mm
        rcases mm with rfl | rfl | rfl
        · exact a2 _ _ g2
        · exact a4 _ _ g4
        · exact a6 _ _ g6
      · simp only [List.mem_cons, List.not_mem_nil, or_false] at mm
        rcases mm with rfl | rfl | rfl
        · exact a1 _ _ g1
        · exact a3 _ _ g3
        · exact a5 _ _ g5
      · simp only [List.mem_cons, List.not_mem_nil, or_false] at mm
        rcases mm with rfl | rfl
        · exact a8 _ _ g8
        · exact a9 _ _ g9
      · cases hm
        have hb : ("b" : Str) ∈ fs := rc.first
        have hc : ("c" : Str) ∈ fs := rc.closed _ hb _ ⟨(r2, "c", "b"), by simp, .inl ⟨rfl, rfl⟩⟩
        have ha : ("a" : Str) ∈ fs := rc.closed _ hc _ ⟨(r1, "a", "c"), by simp, .inl ⟨rfl, rfl⟩⟩
        have l1 := nodup_sub_len rc.nd sub
        have l2 := nodup_sub_len (l := (["b", "a", "c"] : List Str)) (m := fs) (by decide +kernel) fun z hz => by
          simp only [List.mem_cons, List.not_mem_nil, or_false] at hz
          rcases hz with rfl | rfl | rfl
          · exact hb
          · exact ha
          · exact hc
        have l1' : fs.length ≤ 3 := l1
        have l2' : 3 ≤ fs.length := l2
        exact decide_eq_true (show fs.length = 3 by omega)
    refine wa_sp g ((t4.same e1).same a1) (fun G12 c12 => ?_)
    walk_at "zz"
    exact q _
end
abbrev PL (K : PySem.W.Frag) : List Addr := [(He.cT K ("is_name", none)).2, (He.cT K ("is_numbers", none)).2, (He.cT K ("check_hands", none)).2, (He.cT K ("check_ties", none)).2]
/-! ### the head: facts by names, the run -/
def d_is_whole_number : He.DefD := ⟨("is_whole_number", none), "is_whole_number", "is_whole_number", defArgs (topS 4), defBody (topS 4), defScope (topS 4), [], []⟩
def d_is_name : He.DefD := ⟨("is_name", none), "is_name", "is_name", defArgs (topS 10), defBody (topS 10), defScope (topS 10), [], []⟩
def d_is_own_number : He.DefD := ⟨("is_own_number", none), "is_own_number", "is_own_number", defArgs (topS 11), defBody (topS 11), defScope (topS 11), [], []⟩
def d_is_numbers : He.DefD := ⟨("is_numbers", none), "is_numbers", "is_numbers", defArgs (topS 12), defBody (topS 12), defScope (topS 12), [], []⟩
def d_are_unlike_names : He.DefD := ⟨("are_unlike_names", none), "are_unlike_names", "are_unlike_names", defArgs (topS 13), defBody (topS 13), defScope (topS 13), [], []⟩
def d_is_hand : He.DefD := ⟨("is_hand", none), "is_hand", "is_hand", defArgs (topS 14), defBody (topS 14), defScope (topS 14), [], []⟩
def d_is_tie : He.DefD := ⟨("is_tie", none), "is_tie", "is_tie", defArgs (topS 15), defBody (topS 15), defScope (topS 15), [], []⟩
def d_check_hands : He.DefD := ⟨("check_hands", none), "check_hands", "check_hands", defArgs (topS 16), defBody (topS 16), defScope (topS 16), [], []⟩
def d_check_ties : He.DefD := ⟨("check_ties", none), "check_ties", "check_ties", defArgs (topS 17), defBody (topS 17), defScope (topS 17), [], []⟩
def d_check_web : He.DefD := ⟨("check_web", none), "check_web", "check_web", defArgs (topS 18), defBody (topS 18), defScope (topS 18), [], []⟩
def d_tied_to : He.DefD := ⟨("tied_to", none), "tied_to", "tied_to", defArgs (topS 19), defBody (topS 19), defScope (topS 19), [], []⟩
def d_led_to : He.DefD := ⟨("led_to", none), "led_to", "led_to", defArgs (topS 20), defBody (topS 20), defScope (topS 20), [], []⟩
def d_is_whole : He.DefD := ⟨("is_whole", none), "is_whole", "is_whole", defArgs (topS 21), defBody (topS 21), defScope (topS 21), [], []⟩
def d__law_cell_at : He.DefD := ⟨("_law_cell_at", none), "_law_cell_at", "_law_cell_at", defArgs (topS 23), defBody (topS 23), defScope (topS 23), [], []⟩
def d__law_mixed : He.DefD := ⟨("_law_mixed", none), "_law_mixed", "_law_mixed", defArgs (topS 24), defBody (topS 24), defScope (topS 24), [], []⟩
def d__law_well : He.DefD := ⟨("_law_well", none), "_law_well", "_law_well", defArgs (topS 25), defBody (topS 25), defScope (topS 25), [], []⟩
def d__law_draw : He.DefD := ⟨("_law_draw", none), "_law_draw", "_law_draw", defArgs (topS 26), defBody (topS 26), defScope (topS 26), [], []⟩
def d__law_pick : He.DefD := ⟨("_law_pick", none), "_law_pick", "_law_pick", defArgs (topS 27), defBody (topS 27), defScope (topS 27), [], []⟩
def d__law_names : He.DefD := ⟨("_law_names", none), "_law_names", "_law_names", defArgs (topS 28), defBody (topS 28), defScope (topS 28), [], []⟩
def d__law_numbers : He.DefD := ⟨("_law_numbers", none), "_law_numbers", "_law_numbers", defArgs (topS 29), defBody (topS 29), defScope (topS 29), [], []⟩
def d__law_ties : He.DefD := ⟨("_law_ties", none), "_law_ties", "_law_ties", defArgs (topS 30), defBody (topS 30), defScope (topS 30), [], []⟩
def d__law_web : He.DefD := ⟨("_law_web", none), "_law_web", "_law_web", defArgs (topS 31), defBody (topS 31), defScope (topS 31), [], []⟩
def d__law_row_of_ties : He.DefD := ⟨("_law_row_of_ties", none), "_law_row_of_ties", "_law_row_of_ties", defArgs (topS 32), defBody (topS 32), defScope (topS 32), [], []⟩
def d__law_is_whole : He.DefD := ⟨("_law_is_whole", none), "_law_is_whole", "_law_is_whole", defArgs (topS 33), defBody (topS 33), defScope (topS 33), [], []⟩
def d_law : He.DefD := ⟨("law", none), "law", "law", defArgs (topS 34), defBody (topS 34), defScope (topS 34), [], []⟩
def fn : List He.DefD := [d_is_whole_number, d_is_name, d_is_own_number, d_is_numbers, d_are_unlike_names, d_is_hand, d_is_tie, d_check_hands, d_check_ties, d_check_web, d_tied_to, d_led_to, d_is_whole, d__law_cell_at, d__law_mixed, d__law_well, d__law_draw, d__law_names, d__law_numbers, d__law_ties, d__law_web, d__law_row_of_ties, d__law_is_whole, d_law]
def exT (K : PySem.W.Frag) : Bool := true
def fa : List He.Fa := [.glo "is_whole_number", .glo "is_name", .glo "is_own_number", .glo "is_numbers", .glo "are_unlike_names", .glo "is_hand", .glo "is_tie", .glo "check_hands", .glo "check_ties", .glo "check_web", .glo "tied_to", .glo "led_to", .glo "is_whole", .glo "_law_cell_at", .glo "_law_mixed", .glo "_law_well", .glo "_law_draw", .glo "_law_names", .glo "_law_numbers", .glo "_law_ties", .glo "_law_web", .glo "_law_row_of_ties", .glo "_law_is_whole", .glo "law", .free "isinstance", .free "int", .free "bool", .free "str", .free "tuple", .free "list", .free "len", .free "all", .free "range", .free "min", .free "max", .free "sorted", .free "set", .int "LONGEST_NAME" 8, .int "MOST_NUMBERS" 3, .int "GREATEST_NUMBER" 1000000000000, .int "MOST_HANDS" 8]
abbrev R : PySem.W.OpenRow := PySem.W.OpenLaw.row PySem.Challenge.rw_sumtold_k15_whole_webs
def tf : List He.Defn := [("is_name", none), ("is_numbers", none), ("check_hands", none), ("check_ties", none)]
abbrev hk : PySem.W.Hook := He.hookX 35 fa fn [] tf exT
def ob (s : PySem.W.SharedT) : He.AlX := He.obsX 35 fa fn [] tf exT (HandSHeadRun.getT s)
theorem ob_eq (s : PySem.W.SharedT) : ob s = hk.obs s.abs := He.obsX_eq (HandSHeadRun.getT_eq s)
theorem run (w : World) : HandSHeadRun.RunEq R (PySem.W.view R.prog [34]) hk ob 1500 ["SumError", "BadWeb", "is_whole_number", "LONGEST_NAME", "MOST_NUMBERS", "GREATEST_NUMBER", "MOST_HANDS", "is_name", "is_own_number", "is_numbers", "are_unlike_names", "is_hand", "is_tie", "check_hands", "check_ties", "check_web", "tied_to", "led_to", "is_whole", "_law_cell_at", "_law_mixed", "_law_well", "_law_draw", "_law_pick", "_law_names", "_law_numbers", "_law_ties", "_law_web", "_law_row_of_ties", "_law_is_whole"] w := by
  intro os
  kernel_rfl
theorem facts {P : Program} {w : World} {K : PySem.W.Frag} {h : Heap} {mg : Str → Option Value} {f : Addr} (X : K.In h) (G : h.Ns mainGlobals mg) (hfa : mg ("law" : Str) = some (.ref f)) (c : He.SaysD fa fn K) (cm : exT K = true) :
    ∃ fd : FuncData, (∀ (s : Shared) (v : Value), BindsTo s fd ⟨[v], []⟩ [("_law_script", v)]) ∧ ∀ base : Heap, K.In base → base.Ns mainGlobals mg → (∀ p ∈ tf, LamX.TabB base mg (He.cT K p).1 (He.cT K p).2) → FnOk P w K mg base CX0 16 f fd ["_law_script"] (spLaw K (He.cT K ("is_name", none)).2 (He.cT K ("is_numbers", none)).2 (He.cT K ("check_hands", none)).2 (He.cT K ("check_ties", none)).2) := by
  obtain ⟨fd_is_whole_number, F_is_whole_number⟩ := c.def_ 0 (d := d_is_whole_number) rfl
  obtain ⟨fd_is_name, F_is_name⟩ := c.def_ 1 (d := d_is_name) rfl
  obtain ⟨fd_is_own_number, F_is_own_number⟩ := c.def_ 2 (d := d_is_own_number) rfl
  obtain ⟨fd_is_numbers, F_is_numbers⟩ := c.def_ 3 (d := d_is_numbers) rfl
  obtain ⟨fd_are_unlike_names, F_are_unlike_names⟩ := c.def_ 4 (d := d_are_unlike_names) rfl
  obtain ⟨fd_is_hand, F_is_hand⟩ := c.def_ 5 (d := d_is_hand) rfl
  obtain ⟨fd_is_tie, F_is_tie⟩ := c.def_ 6 (d := d_is_tie) rfl
  obtain ⟨fd_check_hands, F_check_hands⟩ := c.def_ 7 (d := d_check_hands) rfl
  obtain ⟨fd_check_ties, F_check_ties⟩ := c.def_ 8 (d := d_check_ties) rfl
  obtain ⟨fd_check_web, F_check_web⟩ := c.def_ 9 (d := d_check_web) rfl
  obtain ⟨fd_tied_to, F_tied_to⟩ := c.def_ 10 (d := d_tied_to) rfl
  obtain ⟨fd_led_to, F_led_to⟩ := c.def_ 11 (d := d_led_to) rfl
  obtain ⟨fd_is_whole, F_is_whole⟩ := c.def_ 12 (d := d_is_whole) rfl
  obtain ⟨fd__law_cell_at, F__law_cell_at⟩ := c.def_ 13 (d := d__law_cell_at) rfl
  obtain ⟨fd__law_mixed, F__law_mixed⟩ := c.def_ 14 (d := d__law_mixed) rfl
  obtain ⟨fd__law_well, F__law_well⟩ := c.def_ 15 (d := d__law_well) rfl
  obtain ⟨fd__law_draw, F__law_draw⟩ := c.def_ 16 (d := d__law_draw) rfl
  obtain ⟨fd__law_names, F__law_names⟩ := c.def_ 17 (d := d__law_names) rfl
  obtain ⟨fd__law_numbers, F__law_numbers⟩ := c.def_ 18 (d := d__law_numbers) rfl
  obtain ⟨fd__law_ties, F__law_ties⟩ := c.def_ 19 (d := d__law_ties) rfl
  obtain ⟨fd__law_web, F__law_web⟩ := c.def_ 20 (d := d__law_web) rfl
  obtain ⟨fd__law_row_of_ties, F__law_row_of_ties⟩ := c.def_ 21 (d := d__law_row_of_ties) rfl
  obtain ⟨fd__law_is_whole, F__law_is_whole⟩ := c.def_ 22 (d := d__law_is_whole) rfl
  obtain ⟨fd_law, F_law⟩ := c.def_ 23 (d := d_law) rfl
  have e := hfa.symm.trans (He.glo_ok X G (c.fact 23 (f := .glo "law") rfl))
  cases e
  have g_is_whole_number := He.glo_ok X G (c.fact 0 (f := .glo "is_whole_number") rfl)
  have g_is_name := He.glo_ok X G (c.fact 1 (f := .glo "is_name") rfl)
  have g_is_own_number := He.glo_ok X G (c.fact 2 (f := .glo "is_own_number") rfl)
  have g_is_numbers := He.glo_ok X G (c.fact 3 (f := .glo "is_numbers") rfl)
  have g_are_unlike_names := He.glo_ok X G (c.fact 4 (f := .glo "are_unlike_names") rfl)
  have g_is_hand := He.glo_ok X G (c.fact 5 (f := .glo "is_hand") rfl)
  have g_is_tie := He.glo_ok X G (c.fact 6 (f := .glo "is_tie") rfl)
  have g_check_hands := He.glo_ok X G (c.fact 7 (f := .glo "check_hands") rfl)
  have g_check_ties := He.glo_ok X G (c.fact 8 (f := .glo "check_ties") rfl)
  have g_check_web := He.glo_ok X G (c.fact 9 (f := .glo "check_web") rfl)
  have g_tied_to := He.glo_ok X G (c.fact 10 (f := .glo "tied_to") rfl)
  have g_led_to := He.glo_ok X G (c.fact 11 (f := .glo "led_to") rfl)
  have g_is_whole := He.glo_ok X G (c.fact 12 (f := .glo "is_whole") rfl)
  have g__law_cell_at := He.glo_ok X G (c.fact 13 (f := .glo "_law_cell_at") rfl)
  have g__law_mixed := He.glo_ok X G (c.fact 14 (f := .glo "_law_mixed") rfl)
  have g__law_well := He.glo_ok X G (c.fact 15 (f := .glo "_law_well") rfl)
  have g__law_draw := He.glo_ok X G (c.fact 16 (f := .glo "_law_draw") rfl)
  have g__law_names := He.glo_ok X G (c.fact 17 (f := .glo "_law_names") rfl)
  have g__law_numbers := He.glo_ok X G (c.fact 18 (f := .glo "_law_numbers") rfl)
  have g__law_ties := He.glo_ok X G (c.fact 19 (f := .glo "_law_ties") rfl)
  have g__law_web := He.glo_ok X G (c.fact 20 (f := .glo "_law_web") rfl)
  have g__law_row_of_ties := He.glo_ok X G (c.fact 21 (f := .glo "_law_row_of_ties") rfl)
  have g__law_is_whole := He.glo_ok X G (c.fact 22 (f := .glo "_law_is_whole") rfl)
  have m_isinstance := He.free_ok X G (c.fact 24 (f := .free "isinstance") rfl)
  have m_int := He.free_ok X G (c.fact 25 (f := .free "int") rfl)
  have m_bool := He.free_ok X G (c.fact 26 (f := .free "bool") rfl)
  have m_str := He.free_ok X G (c.fact 27 (f := .free "str") rfl)
  have m_tuple := He.free_ok X G (c.fact 28 (f := .free "tuple") rfl)
  have m_list := He.free_ok X G (c.fact 29 (f := .free "list") rfl)
  have m_len := He.free_ok X G (c.fact 30 (f := .free "len") rfl)
  have m_all := He.free_ok X G (c.fact 31 (f := .free "all") rfl)
  have m_range := He.free_ok X G (c.fact 32 (f := .free "range") rfl)
  have m_min := He.free_ok X G (c.fact 33 (f := .free "min") rfl)
  have m_max := He.free_ok X G (c.fact 34 (f := .free "max") rfl)
  have m_sorted := He.free_ok X G (c.fact 35 (f := .free "sorted") rfl)
  have m_set := He.free_ok X G (c.fact 36 (f := .free "set") rfl)
  obtain ⟨t_LONGEST_NAME, c_LONGEST_NAME⟩ := He.int_ok X G (c.fact 37 (f := .int "LONGEST_NAME" 8) rfl)
  obtain ⟨t_MOST_NUMBERS, c_MOST_NUMBERS⟩ := He.int_ok X G (c.fact 38 (f := .int "MOST_NUMBERS" 3) rfl)
  obtain ⟨t_GREATEST_NUMBER, c_GREATEST_NUMBER⟩ := He.int_ok X G (c.fact 39 (f := .int "GREATEST_NUMBER" 1000000000000) rfl)
  obtain ⟨t_MOST_HANDS, c_MOST_HANDS⟩ := He.int_ok X G (c.fact 40 (f := .int "MOST_HANDS" 8) rfl)
  have b_is_whole_number : Binds K fd_is_whole_number ["thing"] [] := F_is_whole_number.bindsN fun _ _ _ _ _ _ us hl => match us, hl with | [_], _ => rfl
  have b_is_name : Binds K fd_is_name ["thing"] [] := F_is_name.bindsN fun _ _ _ _ _ _ us hl => match us, hl with | [_], _ => rfl
  have b_is_own_number : Binds K fd_is_own_number ["thing"] [] := F_is_own_number.bindsN fun _ _ _ _ _ _ us hl => match us, hl with | [_], _ => rfl
  have b_is_numbers : Binds K fd_is_numbers ["thing"] [] := F_is_numbers.bindsN fun _ _ _ _ _ _ us hl => match us, hl with | [_], _ => rfl
  have b_are_unlike_names : Binds K fd_are_unlike_names ["one", "other"] [] := F_are_unlike_names.bindsN fun _ _ _ _ _ _ us hl => match us, hl with | [_, _], _ => rfl
  have b_is_hand : Binds K fd_is_hand ["thing"] [] := F_is_hand.bindsN fun _ _ _ _ _ _ us hl => match us, hl with | [_], _ => rfl
  have b_is_tie : Binds K fd_is_tie ["thing"] [] := F_is_tie.bindsN fun _ _ _ _ _ _ us hl => match us, hl with | [_], _ => rfl
  have b_check_hands : Binds K fd_check_hands ["hands"] [] := F_check_hands.bindsN fun _ _ _ _ _ _ us hl => match us, hl with | [_], _ => rfl
  have b_check_ties : Binds K fd_check_ties ["ties", "names"] [] := F_check_ties.bindsN fun _ _ _ _ _ _ us hl => match us, hl with | [_, _], _ => rfl
  have b_check_web : Binds K fd_check_web ["web"] [] := F_check_web.bindsN fun _ _ _ _ _ _ us hl => match us, hl with | [_], _ => rfl
  have b_tied_to : Binds K fd_tied_to ["name", "ties"] [] := F_tied_to.bindsN fun _ _ _ _ _ _ us hl => match us, hl with | [_, _], _ => rfl
  have b_led_to : Binds K fd_led_to ["name", "named"] [] := F_led_to.bindsN fun _ _ _ _ _ _ us hl => match us, hl with | [_, _], _ => rfl
  have b_is_whole : Binds K fd_is_whole ["web"] [] := F_is_whole.bindsN fun _ _ _ _ _ _ us hl => match us, hl with | [_], _ => rfl
  have b__law_cell_at : Binds K fd__law_cell_at ["_law_script", "_law_k"] [] := F__law_cell_at.bindsN fun _ _ _ _ _ _ us hl => match us, hl with | [_, _], _ => rfl
  have b__law_mixed : Binds K fd__law_mixed ["_law_cell", "_law_k"] [] := F__law_mixed.bindsN fun _ _ _ _ _ _ us hl => match us, hl with | [_, _], _ => rfl
  have b__law_well : Binds K fd__law_well ["_law_cell"] [] := F__law_well.bindsN fun _ _ _ _ _ _ us hl => match us, hl with | [_], _ => rfl
  have b__law_draw : Binds K fd__law_draw ["_law_well_here", "_law_many"] [] := F__law_draw.bindsN fun _ _ _ _ _ _ us hl => match us, hl with | [_, _], _ => rfl
  have b__law_names : Binds K fd__law_names ["_law_well_here", "_law_many"] [] := F__law_names.bindsN fun _ _ _ _ _ _ us hl => match us, hl with | [_, _], _ => rfl
  have b__law_numbers : Binds K fd__law_numbers ["_law_well_here", "_law_size"] [] := F__law_numbers.bindsN fun _ _ _ _ _ _ us hl => match us, hl with | [_, _], _ => rfl
  have b__law_ties : Binds K fd__law_ties ["_law_well_here", "_law_names_here", "_law_share"] [] := F__law_ties.bindsN fun _ _ _ _ _ _ us hl => match us, hl with | [_, _, _], _ => rfl
  have b__law_web : Binds K fd__law_web ["_law_well_here", "_law_most"] [] := F__law_web.bindsN fun _ _ _ _ _ _ us hl => match us, hl with | [_, _], _ => rfl
  have b__law_row_of_ties : Binds K fd__law_row_of_ties ["_law_well_here", "_law_names_here"] [] := F__law_row_of_ties.bindsN fun _ _ _ _ _ _ us hl => match us, hl with | [_, _], _ => rfl
  have b__law_is_whole : Binds K fd__law_is_whole ["_law_names_here", "_law_ties_here"] [] := F__law_is_whole.bindsN fun _ _ _ _ _ _ us hl => match us, hl with | [_, _], _ => rfl
  have b_law := FunD.bindsA (ps := ["_law_script"]) F_law fun _ _ _ _ _ _ us hl => match us, hl with | [_], _ => rfl
  refine ⟨fd_law, fun s v => b_law s [v] rfl, fun base _ _ TBs => ?_⟩
  have T_is_name : GxR.TabB base mg (He.cT K ("is_name", none)).1 (He.cT K ("is_name", none)).2 := by
    have t := TBs ("is_name", none) (by simp [tf])
    exact ⟨t.code, t.bm, t.gP⟩
  have k_is_name : fd_is_name.code = .ref (He.cT K ("is_name", none)).1 := code_at (p := ("is_name", none)) F_is_name
  have T_is_numbers : GxR.TabB base mg (He.cT K ("is_numbers", none)).1 (He.cT K ("is_numbers", none)).2 := by
    have t := TBs ("is_numbers", none) (by simp [tf])
    exact ⟨t.code, t.bm, t.gP⟩
  have k_is_numbers : fd_is_numbers.code = .ref (He.cT K ("is_numbers", none)).1 := code_at (p := ("is_numbers", none)) F_is_numbers
  have T_check_hands : GxR.TabB base mg (He.cT K ("check_hands", none)).1 (He.cT K ("check_hands", none)).2 := by
    have t := TBs ("check_hands", none) (by simp [tf])
    exact ⟨t.code, t.bm, t.gP⟩
  have k_check_hands : fd_check_hands.code = .ref (He.cT K ("check_hands", none)).1 := code_at (p := ("check_hands", none)) F_check_hands
  have T_check_ties : GxR.TabB base mg (He.cT K ("check_ties", none)).1 (He.cT K ("check_ties", none)).2 := by
    have t := TBs ("check_ties", none) (by simp [tf])
    exact ⟨t.code, t.bm, t.gP⟩
  have k_check_ties : fd_check_ties.code = .ref (He.cT K ("check_ties", none)).1 := code_at (p := ("check_ties", none)) F_check_ties
  have h_is_whole_number : Has P w K mg base _ "is_whole_number" _ _ := ⟨_, fd_is_whole_number, ok_is_whole_number (P := P) (w := w) (base := base) F_is_whole_number m_isinstance m_int m_bool, F_is_whole_number.kp, b_is_whole_number, g_is_whole_number⟩
  have h_is_name : Has P w K mg base _ "is_name" _ _ := ⟨_, fd_is_name, ok_is_name (P := P) (w := w) (base := base) F_is_name k_is_name T_is_name m_isinstance m_str m_len m_all c_LONGEST_NAME, F_is_name.kp, b_is_name, g_is_name⟩
  have h_is_own_number : Has P w K mg base _ "is_own_number" _ _ := ⟨_, fd_is_own_number, ok_is_own_number (P := P) (w := w) (base := base) F_is_own_number c_GREATEST_NUMBER h_is_whole_number, F_is_own_number.kp, b_is_own_number, g_is_own_number⟩
  have h_is_numbers : Has P w K mg base _ "is_numbers" _ _ := ⟨_, fd_is_numbers, ok_is_numbers (P := P) (w := w) (base := base) F_is_numbers k_is_numbers T_is_numbers m_isinstance m_tuple m_len m_all c_MOST_NUMBERS h_is_own_number, F_is_numbers.kp, b_is_numbers, g_is_numbers⟩
  have h_are_unlike_names : Has P w K mg base _ "are_unlike_names" _ _ := ⟨_, fd_are_unlike_names, ok_are_unlike_names (P := P) (w := w) (base := base) F_are_unlike_names h_is_name, F_are_unlike_names.kp, b_are_unlike_names, g_are_unlike_names⟩
  have h_is_hand : Has P w K mg base _ "is_hand" _ _ := ⟨_, fd_is_hand, ok_is_hand (P := P) (w := w) (base := base) F_is_hand (Ps := PL K) (by simp) (by simp) m_isinstance m_tuple m_len h_is_name h_is_numbers, F_is_hand.kp, b_is_hand, g_is_hand⟩
  have h_is_tie : Has P w K mg base _ "is_tie" _ _ := ⟨_, fd_is_tie, ok_is_tie (P := P) (w := w) (base := base) F_is_tie (Ps := PL K) (by simp) m_isinstance m_tuple m_len h_are_unlike_names, F_is_tie.kp, b_is_tie, g_is_tie⟩
  have h_check_hands : Has P w K mg base _ "check_hands" _ _ := ⟨_, fd_check_hands, ok_check_hands (P := P) (w := w) (base := base) F_check_hands k_check_hands T_check_hands (by simp) m_isinstance m_list m_len m_all c_MOST_HANDS h_is_hand, F_check_hands.kp, b_check_hands, g_check_hands⟩
  have h_check_ties : Has P w K mg base _ "check_ties" _ _ := ⟨_, fd_check_ties, ok_check_ties (P := P) (w := w) (base := base) F_check_ties k_check_ties T_check_ties (by simp) m_isinstance m_list m_len m_all m_min m_max h_is_tie, F_check_ties.kp, b_check_ties, g_check_ties⟩
  have h_check_web : Has P w K mg base _ "check_web" _ _ := ⟨_, fd_check_web, ok_check_web (P := P) (w := w) (base := base) F_check_web m_isinstance m_tuple m_len h_check_hands h_check_ties, F_check_web.kp, b_check_web, g_check_web⟩
  have h_tied_to : Has P w K mg base _ "tied_to" _ _ := ⟨_, fd_tied_to, ok_tied_to (P := P) (w := w) (base := base) F_tied_to m_sorted, F_tied_to.kp, b_tied_to, g_tied_to⟩
  have h_led_to : Has P w K mg base _ "led_to" _ _ := ⟨_, fd_led_to, ok_led_to (P := P) (w := w) (base := base) F_led_to m_len, F_led_to.kp, b_led_to, g_led_to⟩
  have h_is_whole : Has P w K mg base _ "is_whole" _ _ := ⟨_, fd_is_whole, ok_is_whole (P := P) (w := w) (base := base) F_is_whole m_len h_check_web h_tied_to h_led_to, F_is_whole.kp, b_is_whole, g_is_whole⟩
  have h__law_cell_at : Has P w K mg base _ "_law_cell_at" _ _ := ⟨_, fd__law_cell_at, ok__law_cell_at (P := P) (w := w) (base := base) F__law_cell_at m_len, F__law_cell_at.kp, b__law_cell_at, g__law_cell_at⟩
  have h__law_mixed : Has P w K mg base _ "_law_mixed" _ _ := ⟨_, fd__law_mixed, ok__law_mixed (P := P) (w := w) (base := base) F__law_mixed , F__law_mixed.kp, b__law_mixed, g__law_mixed⟩
  have h__law_well : Has P w K mg base _ "_law_well" _ _ := ⟨_, fd__law_well, ok__law_well (P := P) (w := w) (base := base) F__law_well m_int, F__law_well.kp, b__law_well, g__law_well⟩
  have h__law_draw : Has P w K mg base _ "_law_draw" _ _ := ⟨_, fd__law_draw, ok__law_draw (P := P) (w := w) (base := base) F__law_draw h__law_mixed, F__law_draw.kp, b__law_draw, g__law_draw⟩
  have h__law_names : Has P w K mg base _ "_law_names" _ _ := ⟨_, fd__law_names, ok__law_names (P := P) (w := w) (base := base) F__law_names m_len m_range h__law_draw, F__law_names.kp, b__law_names, g__law_names⟩
  have h__law_numbers : Has P w K mg base _ "_law_numbers" _ _ := ⟨_, fd__law_numbers, ok__law_numbers (P := P) (w := w) (base := base) F__law_numbers m_range m_tuple h__law_draw, F__law_numbers.kp, b__law_numbers, g__law_numbers⟩
  have h__law_ties : Has P w K mg base _ "_law_ties" _ _ := ⟨_, fd__law_ties, ok__law_ties (P := P) (w := w) (base := base) F__law_ties m_len m_range h__law_draw, F__law_ties.kp, b__law_ties, g__law_ties⟩
  have h__law_web : Has P w K mg base _ "_law_web" _ _ := ⟨_, fd__law_web, ok__law_web (P := P) (w := w) (base := base) F__law_web h__law_draw h__law_names h__law_numbers h__law_ties, F__law_web.kp, b__law_web, g__law_web⟩
  have h__law_row_of_ties : Has P w K mg base _ "_law_row_of_ties" _ _ := ⟨_, fd__law_row_of_ties, ok__law_row_of_ties (P := P) (w := w) (base := base) F__law_row_of_ties m_len m_range h__law_draw, F__law_row_of_ties.kp, b__law_row_of_ties, g__law_row_of_ties⟩
  have h__law_is_whole : Has P w K mg base _ "_law_is_whole" _ _ := ⟨_, fd__law_is_whole, ok__law_is_whole (P := P) (w := w) (base := base) F__law_is_whole m_sorted m_set, F__law_is_whole.kp, b__law_is_whole, g__law_is_whole⟩
  exact ok_law (P := P) (w := w) (base := base) F_law m_list m_isinstance m_bool m_len h_is_whole h__law_cell_at h__law_well h__law_draw h__law_web h__law_row_of_ties h__law_is_whole
end Zl
open PySem PySem.W PySem.Calls PyProof.Rows
theorem PySem.Challenge.cw_sumtold_k15_whole_webs_holds : PySem.Challenge.rw_sumtold_k15_whole_webs.Holds := by
  w_on; o_law
  refine HandSHeadRun.head_any (r := OpenLaw.row PySem.Challenge.rw_sumtold_k15_whole_webs) (q := view (OpenLaw.row PySem.Challenge.rw_sumtold_k15_whole_webs).prog [34]) (H := Zl.hk) (ob := Zl.ob) (M := 1500) (loose := ["SumError", "BadWeb", "is_whole_number", "LONGEST_NAME", "MOST_NUMBERS", "GREATEST_NUMBER", "MOST_HANDS", "is_name", "is_own_number", "is_numbers", "are_unlike_names", "is_hand", "is_tie", "check_hands", "check_ties", "check_web", "tied_to", "led_to", "is_whole", "_law_cell_at", "_law_mixed", "_law_well", "_law_draw", "_law_pick", "_law_names", "_law_numbers", "_law_ties", "_law_web", "_law_row_of_ties", "_law_is_whole"]) (d := HandSHeadRun.topDef (OpenLaw.row PySem.Challenge.rw_sumtold_k15_whole_webs).prog 34) (kwd := []) Zl.ob_eq
    (by kernel_rfl) (fun s => by kernel_rfl) Zl.run (by kernel_rfl) (by kernel_rfl) (by kernel_rfl) (by rfl) (by first | assumption | decide +kernel) (by decide +kernel) ⟨rfl, rfl, rfl, rfl, rfl, by decide +kernel⟩ ?hw ?hc
  case hw => w_witness2
  case hc =>
    refine LamX.walk_ofTsE (l := PySem.Challenge.rw_sumtold_k15_whole_webs) (n := 63) (k := 16) (x := "_law_script") (CX := fun _ => L2.CX0) rfl (by decide) (by kernel_rfl) ⟨rfl, by decide, by decide⟩ ?F (fun _ _ _ _ _ z => z)
    intro w mg fa h Y G hmg0
    obtain ⟨K, KX, c⟩ := Y
    have hmg : mg ("law" : PySem.Str) = some (.ref fa) := by
      have e : (HandSHeadRun.topDef (OpenLaw.row PySem.Challenge.rw_sumtold_k15_whole_webs).prog 34).name = ("law" : PySem.Str) := by kernel_rfl
      rw [← e]
      exact hmg0
    obtain ⟨fd, hb, hF⟩ := Zl.facts (P := (PySem.Challenge.rw_sumtold_k15_whole_webs).prog) (w := w) KX G hmg c.t.d c.more
    have mt : ∀ d ∈ Zl.tf, He.cT K d ∈ Zl.tf.map (He.cT K) := fun d hd => List.mem_map.mpr ⟨d, hd, rfl⟩
    refine ⟨K, KX, fd, Zl.tf.map (He.cT K), Zl.spLaw K (He.cT K ("is_name", none)).2 (He.cT K ("is_numbers", none)).2 (He.cT K ("check_hands", none)).2 (He.cT K ("check_ties", none)).2, fun p hp => ?_, fun p hp => ?_, fun p hp => ?_, hb, fun H a ns hl _ hH hS => ⟨a, ns, rfl, hS, hl, ⟨#[], hH _ (mt ("is_name", none) (by simp [Zl.tf])), trivial⟩, ⟨#[], hH _ (mt ("is_numbers", none) (by simp [Zl.tf])), trivial⟩, ⟨#[], hH _ (mt ("check_hands", none) (by simp [Zl.tf])), trivial⟩, ⟨#[], hH _ (mt ("check_ties", none) (by simp [Zl.tf])), trivial⟩, fun _ => rfl⟩, fun base hK hN TB => hF base hK hN (fun p hp => TB _ (mt p hp))⟩
    · obtain ⟨d, hd, rfl⟩ := List.mem_map.mp hp
      exact c.empty d hd
    · obtain ⟨d, hd, rfl⟩ := List.mem_map.mp hp
      exact c.out d hd
    · obtain ⟨d, hd, rfl⟩ := List.mem_map.mp hp
      exact PySem.W.codeHd_of_K KX (c.hd d hd)
