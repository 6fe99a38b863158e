import PyProof.Rows.All
import Wide.All
import OpenK.AllK
import Wide.FinOn
import HandS.ForMost
import HandS.Exc
import HandS.TryOnly
import HandS.WordsExc
import HandS.WordsList
import HandS.Wide
import HandS.IsInst
import HandS.SetIn
import HandS.Deep
import HandS.ExcField
import HandS.ExcIs
import KE.KExcIs
import KE.KExcSuper
import PyProof.DictUpdate
import PyProof.DictDisplay
import HandS.Property
import HandS.ClsMeth
import HandS.OwnEq
import HandS.More
import HandS.TupAny
import HandS.Small
import HandS.HotCalls
import HandS.IterVal
import KE.KOwnIter
import KE.GoesMore
import KE.GoesEnum
import HandS.Walk
import HandS.Codes
import HandS.TupLe
import PyProof.FactsAll.object_2
import PySem.Challenge.RW_exitdeeds_k14_world_order
set_option Elab.async false
set_option linter.all false
set_option maxRecDepth 100000
namespace Ov
open PySem PySem.Spec PyProof.Rows L2

/-! ### a def that may be called -/
/-- the def called x keeps sp -/
def Cal (P : Program) (w : World) (K : PySem.W.Frag) (mg : Str → Option Value) (base : Heap) (CX : CXT) (k : Nat) (x : Str) (ps : List Str) (sp : Sp) : Prop :=
  ∃ (f : Addr) (fd : FuncData), FnOk P w K mg base CX k f fd ps sp ∧ mg x = some (.ref f) ∧ PySem.W.keepIn K (.ref f) = true ∧ Binds K fd ps []
/-- the def called x stands in the text -/
def Has (K : PySem.W.Frag) (mg : Str → Option Value) (x : Str) (st : Stmt) (ps : List Str) : Prop :=
  ∃ (f : Addr) (fd : FuncData), Fun K x x st f fd ∧ mg x = some (.ref f) ∧ ∀ us : List Value, us.length = ps.length → bindArgs fd ⟨us, []⟩ = pure (ps.zip us)
section
variable {P : Program} {w : World} {K : PySem.W.Frag} {mg : Str → Option Value} {base : Heap} {CX : CXT}
theorem Cal.mono {j k : Nat} {x : Str} {ps : List Str} {sp : Sp} (c : Cal P w K mg base CX j x ps sp) (h : j ≤ k) : Cal P w K mg base CX k x ps sp := by
  obtain ⟨f, fd, F, m, kp, b⟩ := c
  exact ⟨f, fd, F.mono h, m, kp, b⟩
theorem Cal.imp {k : Nat} {x : Str} {ps : List Str} {sp sp' : Sp} (c : Cal P w K mg base CX k x ps sp) (h : ∀ vs H Q E, sp' vs H Q E → sp vs H Q E) : Cal P w K mg base CX k x ps sp' := by
  obtain ⟨f, fd, F, m, kp, b⟩ := c
  exact ⟨f, fd, F.imp h, m, kp, b⟩
theorem Has.ok {x : Str} {st : Stmt} {N ps : List Str} {k : Nat} {sp : Sp} (h : Has K mg x st ps) (S : FnScope N ps (defScope st)) (len : ∀ vs H Q E, sp vs H Q E → vs.length = ps.length)
    (hbody : ∀ (f : Addr) (cdv : Value) (A : Around) (outer : List Env) (s : Shared) (H : Hp) (vs : List V) (Q : VK) (E : XK), Room k (A.deeper (envOfC x (defScope st) s.heap.objs.size f cdv)) → sp vs H Q E →
      ∃ t, PSs (cxOf CX0 P w K mg base N x (defScope st) f cdv A outer s H E).nox (defBody st) t ∧ t { nx := fun _ H' => Q .non H', rt := Q } (start N vs) H) : Cal P w K mg base CX0 (k + 1) x ps sp := by
  obtain ⟨f, fd, F, m, b⟩ := h
  exact ⟨f, fd, F.ok S len (fun cdv A outer s H vs Q E hr h => hbody f cdv A outer s H vs Q E hr h), m, F.kp, .all b⟩
theorem Has.okX {x : Str} {st : Stmt} {N ps : List Str} {k : Nat} {sp : Sp} (h : Has K mg x st ps) (S : FnScope N ps (defScope st)) (len : ∀ vs H Q E, sp vs H Q E → vs.length = ps.length)
    (hbody : ∀ (f : Addr) (cdv : Value) (A : Around) (outer : List Env) (s : Shared) (H : Hp) (vs : List V) (Q : VK) (E : XK), Room k (A.deeper (envOfC x (defScope st) s.heap.objs.size f cdv)) → sp vs H Q E →
      ∃ t, PSs (cxOf (L2.CX P w) P w K mg base N x (defScope st) f cdv A outer s H E) (defBody st) t ∧ t { nx := fun _ H' => Q .non H', rt := Q } (start N vs) H) : Cal P w K mg base (L2.CX P w) (k + 1) x ps sp := by
  obtain ⟨f, fd, F, m, b⟩ := h
  exact ⟨f, fd, F.okX S len (fun cdv A outer s H vs Q E hr h => hbody f cdv A outer s H vs Q E hr h), m, F.kp, .all b⟩
end
/-- a promise that asks for what cannot be -/
theorem Has.void {P : Program} {w : World} {K : PySem.W.Frag} {mg : Str → Option Value} {base : Heap} {CX : CXT} {k : Nat} {x : Str} {st : Stmt} {ps : List Str} {sp : Sp} (h : Has K mg x st ps) (no : ∀ vs H Q E, ¬ sp vs H Q E) : Cal P w K mg base CX k x ps sp := by
  obtain ⟨f, fd, F, m, b⟩ := h
  exact ⟨f, fd, ⟨fun vs H Q E h => (no _ _ _ _ h).elim, fun A outer s H args us vs Q E hr he hb hv hs => (no _ _ _ _ hs).elim⟩, m, F.kp, .all b⟩
theorem has_mk {K : PySem.W.Frag} {h : Heap} {mg : Str → Option Value} (X : K.In h) (G : h.Ns mainGlobals mg) {x : Str} {st : Stmt} {ps : List Str} {f : Addr} {oc : Value} {od an : Option Addr} {osl : Array (Option Value)} {kV doc pm cdv ct : Value}
    (a : PySem.W.nsIn K mainGlobals x = some (some (.ref f))) (l : K.lookup f = some ⟨oc, od, .func (PySem.W.fnOf x x (defArgs st) (defBody st) (defScope st) .none kV doc pm an cdv ct), osl⟩)
    (c : PySem.W.codeIn K cdv x = true) (k : PySem.W.keepIn K (.ref f) = true)
    (hb : ∀ (kV doc pm : Value) (an : Option Addr) (cdv ct : Value) (us : List Value), us.length = ps.length → bindArgs (PySem.W.fnOf x x (defArgs st) (defBody st) (defScope st) .none kV doc pm an cdv ct) ⟨us, []⟩ = pure (ps.zip us)) : Has K mg x st ps :=
  ⟨f, _, fun_mk l c k, PySem.W.mg_of X G a, hb kV doc pm an cdv ct⟩
/-- the law itself -/
theorem law_end {P : Program} {w : World} {K : PySem.W.Frag} {mg : Str → Option Value} {k : Nat} {st : Stmt} {x y : Str} {sp : Sp} {CX : CXT} {fa : Addr} (h : Has K mg x st [y]) (hfa : mg x = some (.ref fa))
    (F : ∀ base : Heap, K.In base → base.Ns mainGlobals mg → ∀ (f : Addr) (fd : FuncData), Fun K x x st f fd → FnOk P w K mg base CX k f fd [y] sp) :
    ∃ fd : FuncData, (∀ (s : Shared) (u : Value), BindsTo s fd ⟨[u], []⟩ [(y, u)]) ∧ ∀ base : Heap, K.In base → base.Ns mainGlobals mg → FnOk P w K mg base CX k fa fd [y] sp := by
  obtain ⟨f, fd, Fu, m, b⟩ := h
  have e : fa = f := Value.ref.inj (Option.some.inj (hfa.symm.trans m))
  subst e
  exact ⟨fd, fun s u => .of_eq (b [u] rfl), fun base hi hn => F base hi hn _ fd Fu⟩
section
variable {X : Cx} {k : Nat} {x : Str} {ps : List Str} {sp : Sp} {p pos : Pos} {e : Expr} {es : List Expr} {t : TA}
theorem pe_fn (c : Cal X.prog X.w X.K X.mg X.base CX0 k x ps sp) (hr : Room k X.A) (hg : Gl X x) (ha : PA X (e :: es) t) (hdb : (x == ("__debug__" : Str)) = false := by decide)
    (he : starEach (e :: es) X.env = (false, eval e X.env) :: starEach es X.env := by rfl) (hpl : (backTo pos (starEach es X.env)).any (·.1) = false := by rfl) : PE X (.Call (.Name x p) (e :: es) [] pos) (tCall sp [] E0 t) := by
  obtain ⟨f, fd, F, m, kp, b⟩ := c
  exact pe_call F hr hg m kp b .nil pass0 ha hdb he hpl
theorem pe_fn0 (c : Cal X.prog X.w X.K X.mg X.base CX0 k x ps sp) (hr : Room k X.A) (hg : Gl X x) (hdb : (x == ("__debug__" : Str)) = false := by decide) : PE X (.Call (.Name x p) [] [] pos) (tCall sp [] E0 tNil) := by
  obtain ⟨f, fd, F, m, kp, b⟩ := c
  exact pe_call0 F hr hg m kp b .nil pass0 hdb
end

/-! ### operators by what they meet -/
theorem OpR.or {X : Cx} {f : Value → Value → Sem Value} {r r' : R2} (a : OpR X f r) (b : OpR X f r') : OpR X f (fun x y H Q => r x y H Q ∨ r' x y H Q) := by
  intro pins s σ H x y v u Q I rx ry h
  rcases h with h | h
  · exact a pins s σ H x y v u Q I rx ry h
  · exact b pins s σ H x y v u Q I rx ry h
theorem OpR.of {X : Cx} {f : Value → Value → Sem Value} {r r' : R2} (a : OpR X f r) (h : ∀ x y H Q, r' x y H Q → r x y H Q) : OpR X f r' := by
  intro pins s σ H x y v u Q I rx ry q
  exact a pins s σ H x y v u Q I rx ry (h _ _ _ _ q)

/-- + : two ints, two texts, two lists, two tuples -/
def oAdd (K : PySem.W.Frag) : R2 := fun x y H Q => match x, y with
  | .int i, .int j => Q (.int (i + j)) H
  | .str a, .str b => a.length + b.length ≤ sizeLine ∧ Q (.str (a ++ b)) H
  | .ref p, .ref q => rCat (.ref p) (.ref q) H Q ∨ rCatT K (.ref p) (.ref q) H Q
  | _, _ => False
theorem op_oAdd {X : Cx} : OpR X (binaryOp .Add) (oAdd X.K) := by
  refine OpR.of (OpR.or op_add (OpR.or op_add_str (OpR.or op_cat op_catT))) fun x y H Q h => ?_
  unfold oAdd at h
  split at h
  · exact .inl ⟨_, _, rfl, rfl, h⟩
  · exact .inr (.inl ⟨_, _, rfl, rfl, h.1, h.2⟩)
  · rcases h with h | h
    · exact .inr (.inr (.inl h))
    · exact .inr (.inr (.inr h))
  · exact h.elim
def oSub : R2 := fun x y H Q => match x, y with
  | .int i, .int j => Q (.int (i - j)) H
  | _, _ => False
theorem op_oSub {X : Cx} : OpR X (binaryOp .Sub) oSub := by
  refine OpR.of op_sub fun x y H Q h => ?_
  unfold oSub at h
  split at h
  · exact ⟨_, _, rfl, rfl, h⟩
  · exact h.elim
theorem op_mul_str {X : Cx} : OpR X (binaryOp .Mult) (fun x y H Q => ∃ z n, x = .str z ∧ y = .int n ∧ MulOk z n ∧ Q (.str (Txt.mul z n)) H) := by
  intro pins s σ H x y v u Q I rx ry h
  obtain ⟨z, n, rfl, rfl, hok, q⟩ := h
  obtain ⟨t, rfl⟩ := rx
  obtain ⟨t', rfl⟩ := ry
  exact SB.mul hok fun t' k => ⟨.str (Txt.mul z n), H, I.tok k, ⟨_, rfl⟩, q⟩
/-- * : two ints, a text and an int, a list and an int -/
def oMul : R2 := fun x y H Q => match x, y with
  | .int i, .int j => CMulW i j ∧ Q (.int (i * j)) H
  | .str a, .int n => MulOk a n ∧ Q (.str (Txt.mul a n)) H
  | .ref p, .int n => rRep (.ref p) (.int n) H Q
  | _, _ => False
theorem op_oMul {X : Cx} : OpR X (binaryOp .Mult) oMul := by
  refine OpR.of (OpR.or op_mulW (OpR.or op_mul_str op_rep)) fun x y H Q h => ?_
  unfold oMul at h
  split at h
  · exact .inl ⟨_, _, rfl, rfl, h.1, h.2⟩
  · exact .inr (.inl ⟨_, _, rfl, rfl, h.1, h.2⟩)
  · exact .inr (.inr h)
  · exact h.elim
def oMod : R2 := fun x y H Q => match x, y with
  | .int i, .int j => 0 < j ∧ Q (.int (i % j)) H
  | _, _ => False
theorem op_oMod {X : Cx} : OpR X (binaryOp .Mod) oMod := by
  refine OpR.of op_mod fun x y H Q h => ?_
  unfold oMod at h
  split at h
  · exact ⟨_, _, rfl, rfl, h.1, h.2⟩
  · exact h.elim
def oDiv : R2 := fun x y H Q => match x, y with
  | .int i, .int j => CDivW i j ∧ Q (.int (i / j)) H
  | _, _ => False
theorem op_oDiv {X : Cx} : OpR X (binaryOp .FloorDiv) oDiv := by
  refine OpR.of op_fdivW fun x y H Q h => ?_
  unfold oDiv at h
  split at h
  · exact ⟨_, _, rfl, rfl, h.1, h.2⟩
  · exact h.elim
def oPow : R2 := fun x y H Q => match x, y with
  | .int i, .int j => CPow i j ∧ Q (.int (i ^ j.toNat)) H
  | _, _ => False
theorem op_oPow {X : Cx} : OpR X (binaryOp .Pow) oPow := by
  refine OpR.of op_pow fun x y H Q h => ?_
  unfold oPow at h
  split at h
  · exact ⟨_, _, rfl, rfl, h.1, h.2⟩
  · exact h.elim
/-- an order of two ints -/
def oCmp (p : Int → Int → Bool) : R2 := fun x y H Q => match x, y with
  | .int i, .int j => Q (.bl (p i j)) H
  | _, _ => False
abbrev oLt : R2 := oCmp fun i j => decide (i < j)
abbrev oLe : R2 := oCmp fun i j => decide (i ≤ j)
abbrev oGt : R2 := oCmp fun i j => decide (j < i)
abbrev oGe : R2 := oCmp fun i j => decide (j ≤ i)
theorem oCmp_of {p : Int → Int → Bool} {x y : V} {H : Hp} {Q : VK} (h : oCmp p x y H Q) : rI0 (fun i j => .bl (p i j)) x y H Q := by
  unfold oCmp at h
  split at h
  · exact ⟨_, _, rfl, rfl, h⟩
  · exact h.elim
theorem op_oLt {X : Cx} : OpR X (compareOp .Lt) oLt := OpR.of op_lt fun _ _ _ _ h => oCmp_of h
theorem op_oLe {X : Cx} : OpR X (compareOp .LtE) oLe := OpR.of op_le fun _ _ _ _ h => oCmp_of h
theorem op_oGt {X : Cx} : OpR X (compareOp .Gt) oGt := OpR.of op_gt fun _ _ _ _ h => oCmp_of h
theorem op_oGe {X : Cx} : OpR X (compareOp .GtE) oGe := OpR.of op_ge fun _ _ _ _ h => oCmp_of h
def oIsN : R2 := fun x y H Q => y = .non ∧ Q (.bl (decide (x = .non))) H
def oNotN : R2 := fun x y H Q => y = .non ∧ Q (.bl (!decide (x = .non))) H
theorem op_oIsN {X : Cx} : OpR X (compareOp .Is) oIsN := op_isN
theorem op_oNotN {X : Cx} : OpR X (compareOp .IsNot) oNotN := op_notN
/-- == of flat values, and of data as a whole -/
def oEq (K : PySem.W.Frag) : R2 := fun x y H Q => rEq x y H Q ∨ rEqD K x y H Q
def oNe (K : PySem.W.Frag) : R2 := fun x y H Q => rNe x y H Q ∨ rNeD K x y H Q
theorem op_oEq {X : Cx} (hu : X.A.units + 65 < cLine) : OpR X (compareOp .Eq) (oEq X.K) := OpR.or op_eq (op_eqD (by omega))
theorem op_oNe {X : Cx} (hu : X.A.units + 65 < cLine) : OpR X (compareOp .NotEq) (oNe X.K) := OpR.or op_ne (op_neD (by omega))
theorem hu65 {k : Nat} {A : Around} (r : Room k A) : A.units + 65 < cLine := by have := r.un; omega
/-- x in a list or tuple of data -/
def rInT (K : PySem.W.Frag) (neg : Bool) : R2 := fun x y H Q => ∃ d ds, Dp K H x d ∧ (Dp K H y (.tuple ds) ∨ Dp K H y (.list ds)) ∧ SeqAt.shaped d = true ∧ SeqAt.shaped (.list ds) = true ∧ Q (.bl (if neg then !ds.any fun z => PyData.eqv z d else ds.any fun z => PyData.eqv z d)) H
theorem shaped_tl {ds : List PyData} : PyData.canLay0 (.tuple ds) = PyData.canLay0 (.list ds) := by simp [PyData.canLay0]
theorem op_inT {X : Cx} (hu : X.A.units + 65 < cLine) : OpR X (compareOp .In) (rInT X.K false) := by
  intro pins s σ H x y v u Q I rx ry h
  obtain ⟨d, ds, hd, he, sd, se, q⟩ := h
  obtain ⟨as, r1⟩ := Dp.reads I d x v hd rx
  rcases he with he | he
  · obtain ⟨bs, r2⟩ := Dp.reads I (.tuple ds) y u he ry
    exact SeqAt.in_tuple_reads r2 r1 (SeqAt.canLay_of_shaped se) (SeqAt.canLay_of_shaped sd) (room_in_shaped sd hu) ⟨.bl _, H, I, rfl, q⟩
  · obtain ⟨bs, r2⟩ := Dp.reads I (.list ds) y u he ry
    exact SeqAt.in_list_reads r2 r1 (SeqAt.canLay_of_shaped se) (SeqAt.canLay_of_shaped sd) (room_in_shaped sd hu) ⟨.bl _, H, I, rfl, q⟩
theorem op_notInT {X : Cx} (hu : X.A.units + 65 < cLine) : OpR X (compareOp .NotIn) (rInT X.K true) := by
  intro pins s σ H x y v u Q I rx ry h
  obtain ⟨d, ds, hd, he, sd, se, q⟩ := h
  obtain ⟨as, r1⟩ := Dp.reads I d x v hd rx
  rcases he with he | he
  · obtain ⟨bs, r2⟩ := Dp.reads I (.tuple ds) y u he ry
    exact SeqAt.notIn_tuple_reads r2 r1 (SeqAt.canLay_of_shaped se) (SeqAt.canLay_of_shaped sd) (room_in_shaped sd hu) ⟨.bl _, H, I, rfl, q⟩
  · obtain ⟨bs, r2⟩ := Dp.reads I (.list ds) y u he ry
    exact SeqAt.notIn_list_reads r2 r1 (SeqAt.canLay_of_shaped se) (SeqAt.canLay_of_shaped sd) (room_in_shaped sd hu) ⟨.bl _, H, I, rfl, q⟩
/-- in: one sign in a text, a flat thing in a list or tuple -/
def oIn (K : PySem.W.Frag) : R2 := fun x y H Q => match y with
  | .str z => ∃ c : Nat, x = .str ⟨#[c]⟩ ∧ Q (.bl (decide (c ∈ z.cps.toList))) H
  | .ref p => rIn K false x (.ref p) H Q ∨ rInT K false x (.ref p) H Q
  | _ => False
def oNotIn (K : PySem.W.Frag) : R2 := fun x y H Q => match y with
  | .str z => ∃ c : Nat, x = .str ⟨#[c]⟩ ∧ Q (.bl (!decide (c ∈ z.cps.toList))) H
  | .ref p => rIn K true x (.ref p) H Q ∨ rInT K true x (.ref p) H Q
  | _ => False
theorem op_oIn {X : Cx} (hu : X.A.units + 65 < cLine) : OpR X (compareOp .In) (oIn X.K) := by
  refine OpR.of (OpR.or op_in_sign (OpR.or op_in_seq (op_inT hu))) fun x y H Q h => ?_
  unfold oIn at h
  split at h
  · obtain ⟨c, rfl, q⟩ := h
    exact .inl ⟨c, _, rfl, rfl, q⟩
  · exact .inr h
  · exact h.elim
theorem op_oNotIn {X : Cx} (hu : X.A.units + 65 < cLine) : OpR X (compareOp .NotIn) (oNotIn X.K) := by
  refine OpR.of (OpR.or op_notIn_sign (OpR.or op_notIn_seq (op_notInT hu))) fun x y H Q h => ?_
  unfold oNotIn at h
  split at h
  · obtain ⟨c, rfl, q⟩ := h
    exact .inl ⟨c, _, rfl, rfl, q⟩
  · exact .inr h
  · exact h.elim
def oNeg : V → Hp → VK → Prop := fun x H Q => match x with
  | .int i => Q (.int (-i)) H
  | _ => False
theorem un_oNeg {X : Cx} : UnR X (unaryOp .USub) oNeg := by
  intro pins s σ H x u Q I rx h
  refine un_neg pins s σ H x u Q I rx ?_
  unfold oNeg at h
  split at h
  · exact ⟨_, rfl, h⟩
  · exact h.elim

/-! ### built-in functions -/
def cInt : List V → Hp → VK → Prop := fun xs H Q => match xs with
  | [.int i] => Q (.int i) H
  | [.bl k] => Q (.int (if k then 1 else 0)) H
  | _ => False
theorem call_cInt {X : Cx} : CallR X (.type "int") cInt := by
  intro pins s σ H xs us Q I r h
  refine call_int1 pins s σ H xs us Q I r ?_
  unfold cInt at h
  split at h
  · exact .inl ⟨_, rfl, h⟩
  · exact .inr ⟨_, rfl, h⟩
  · exact h.elim
def cAbs : List V → Hp → VK → Prop := fun xs H Q => match xs with
  | [.int i] => Q (.int (i.natAbs : Int)) H
  | _ => False
theorem call_cAbs {X : Cx} : CallR X (.builtin "abs") cAbs := by
  intro pins s σ H xs us Q I r h
  refine call_abs pins s σ H xs us Q I r ?_
  unfold cAbs at h
  split at h
  · rename_i i
    refine ⟨_, rfl, ?_⟩
    have e : (if i < 0 then -i else i) = (i.natAbs : Int) := by split <;> omega
    rw [e]
    exact h
  · exact h.elim
def cLen (K : PySem.W.Frag) : List V → Hp → VK → Prop := fun xs H Q => ∃ x n, xs = [x] ∧ LenV K x H n ∧ Q (.int n) H
theorem call_cLen {X : Cx} : CallR X (.builtin "len") (cLen X.K) := call_len
def cList (K : PySem.W.Frag) : List V → Hp → VK → Prop := fun xs H Q => ∃ p ys, xs = [.ref p] ∧ (SqL K H p ys ∨ SqT K H p ys) ∧ ∀ l, H l = none → Q (.ref l) (upd H l (.lst ys))
theorem call_cList {X : Cx} : CallR X (.type "list") (cList X.K) := call_list_of
def cTuple (K : PySem.W.Frag) : List V → Hp → VK → Prop := fun xs H Q => ∃ p ys, xs = [.ref p] ∧ SqL K H p ys ∧ ∀ l, H l = none → Q (.ref l) (upd H l (.tup ys))
/-- isinstance with one built-in class, by what the value is -/
def isTy (x : V) (H : Hp) (n : String) (b : Bool) : Prop := match x with
  | .non => b = false
  | .bl _ => b = (n == "bool" || n == "int")
  | .int _ => b = (n == "int")
  | .str _ => b = (n == "str")
  | .ref p => (∃ xs, H p = some (.tup xs)) ∧ b = (n == "tuple") ∨ (∃ xs, H p = some (.lst xs)) ∧ b = (n == "list")
  | _ => False
def tyNames : List String := ["bool", "int", "str", "tuple", "list"]
def cIsi (_K : PySem.W.Frag) : List V → Hp → VK → Prop := fun xs H Q => ∃ x n b, xs = [x, .ty n] ∧ n ∈ tyNames ∧ isTy x H n b ∧ Q (.bl b) H
theorem kit_names (K : PySem.W.Frag) : ∀ t ∈ (["NoneType", "bool", "int", "str", "tuple", "list"] : List String), ∀ n ∈ tyNames, PySem.W.kitOne K (.type t) (.type n) = some (t == n || (t == "bool" && n == "int")) := by
  intro t ht n hn
  simp only [tyNames, List.mem_cons, List.not_mem_nil, or_false] at ht hn
  rcases ht with rfl | rfl | rfl | rfl | rfl | rfl <;> rcases hn with rfl | rfl | rfl | rfl | rfl <;> exact kit_ty (by decide +kernel)

theorem call_cIsi {X : Cx} : CallR X (.builtin "isinstance") (cIsi X.K) := by
  intro pins s σ H xs us Q I r h
  refine call_isi pins s σ H xs us Q I r ?_
  obtain ⟨x, n, b, rfl, hn, ht, q⟩ := h
  have hk := fun t ht => kit_names X.K t ht n hn
  unfold isTy at ht
  split at ht
  · refine ⟨_, _, _, _, b, rfl, .ty n, .base .non, ?_, q⟩
    rw [hk "NoneType" (by decide), ht]
    simp only [tyNames, List.mem_cons, List.not_mem_nil, or_false] at hn
    rcases hn with rfl | rfl | rfl | rfl | rfl <;> rfl
  · refine ⟨_, _, _, _, b, rfl, .ty n, .base (.bl _), ?_, q⟩
    rw [hk "bool" (by decide), ht]
    simp only [tyNames, List.mem_cons, List.not_mem_nil, or_false] at hn
    rcases hn with rfl | rfl | rfl | rfl | rfl <;> rfl
  · refine ⟨_, _, _, _, b, rfl, .ty n, .base (.int _), ?_, q⟩
    rw [hk "int" (by decide), ht]
    simp only [tyNames, List.mem_cons, List.not_mem_nil, or_false] at hn
    rcases hn with rfl | rfl | rfl | rfl | rfl <;> rfl
  · refine ⟨_, _, _, _, b, rfl, .ty n, .base (.str _), ?_, q⟩
    rw [hk "str" (by decide), ht]
    simp only [tyNames, List.mem_cons, List.not_mem_nil, or_false] at hn
    rcases hn with rfl | rfl | rfl | rfl | rfl <;> rfl
  · rcases ht with ⟨⟨xs, e⟩, ht⟩ | ⟨⟨xs, e⟩, ht⟩
    · refine ⟨_, _, _, _, b, rfl, .ty n, .base (.tup e), ?_, q⟩
      rw [hk "tuple" (by decide), ht]
      simp only [tyNames, List.mem_cons, List.not_mem_nil, or_false] at hn
      rcases hn with rfl | rfl | rfl | rfl | rfl <;> rfl
    · refine ⟨_, _, _, _, b, rfl, .ty n, .base (.lst e), ?_, q⟩
      rw [hk "list" (by decide), ht]
      simp only [tyNames, List.mem_cons, List.not_mem_nil, or_false] at hn
      rcases hn with rfl | rfl | rfl | rfl | rfl <;> rfl
  · exact ht.elim

/-! ### slices, items, what a for walks: by what they meet -/
def oSl (K : PySem.W.Frag) : V → Option Int → Option Int → Hp → VK → Prop := fun x lo hi H Q => match x with
  | .str z => z.length ≤ sizeLine ∧ Q (.str (cutS z lo hi)) H
  | .ref p => rSlL K (.ref p) lo hi H Q ∨ rSlT K (.ref p) lo hi H Q
  | _ => False
theorem sl_oSl {X : Cx} : SlR X (oSl X.K) := by
  intro pins s σ H x v vl vu lo hi sl Q I rx hs pl pu h
  unfold oSl at h
  split at h
  · exact sl_str pins s σ H _ v vl vu lo hi sl Q I rx hs pl pu ⟨_, rfl, h.1, h.2⟩
  · rcases h with h | h
    · exact sl_list pins s σ H _ v vl vu lo hi sl Q I rx hs pl pu h
    · exact sl_tup pins s σ H _ v vl vu lo hi sl Q I rx hs pl pu h
  · exact h.elim
def oIx (K : PySem.W.Frag) : R2 := fun x y H Q => match x, y with
  | .str z, .int i => ∃ c : Nat, z.length ≤ sizeLine ∧ atI z.cps.toList i = some c ∧ Q (.str ⟨#[c]⟩) H
  | .ref p, .int i => ∃ xs v, (SqL K H p xs ∨ SqT K H p xs) ∧ atI xs i = some v ∧ Q v H
  | _, _ => False
theorem ix_oIx {X : Cx} : IxR X (oIx X.K) := by
  have key : ∀ x y H Q, oIx X.K x y H Q → rIx X.K x y H Q := by
    intro x y H Q h
    unfold oIx at h
    split at h
    · obtain ⟨c, hz, e, q⟩ := h
      exact .inr (.inr ⟨_, _, c, rfl, rfl, hz, e, q⟩)
    · obtain ⟨xs, v, hs, e, q⟩ := h
      rcases hs with hs | hs
      · exact .inl ⟨_, xs, _, v, rfl, rfl, hs, e, q⟩
      · exact .inr (.inl ⟨_, xs, _, v, rfl, rfl, hs, e, q⟩)
    · exact h.elim
  have base := ix_seq (X := X)
  unfold IxR at base ⊢
  intros
  apply base <;> first | assumption | (apply key; assumption)
def iAny (K : PySem.W.Frag) (tl : TE) : TI := fun σ H R => iList K tl σ H R ∨ iTup K tl σ H R ∨ iStr tl σ H R
theorem pi_any {X : Cx} {tg l : Expr} {tl : TE} (hl : PE X l tl) : PI X tg l (iAny X.K tl) := ⟨fun pins s σ H R I h => by
  rcases h with h | h | h
  · exact (pi_list hl).run pins s σ H R I h
  · exact (pi_tup hl).run pins s σ H R I h
  · exact (pi_str hl).run pins s σ H R I h⟩
theorem PE.or {X : Cx} {e : Expr} {t u : TE} (a : PE X e t) (b : PE X e u) : PE X e (fun σ H Q => t σ H Q ∨ u σ H Q) := ⟨fun pins s σ H Q I h => by
  rcases h with h | h
  · exact a.run pins s σ H Q I h
  · exact b.run pins s σ H Q I h⟩
/-- a comparison in the middle: a < b < c -/
theorem PT.or {X : Cx} {e : Expr} {t u : TT} (a : PT X e t) (b : PT X e u) : PT X e (fun σ H Q => t σ H Q ∨ u σ H Q) := ⟨fun pins s σ H Q I h => by
  rcases h with h | h
  · exact a.run pins s σ H Q I h
  · exact b.run pins s σ H Q I h⟩

theorem bi_int : bootBuiltins "int" = some (.type "int") := by decide +kernel
theorem bi_list : bootBuiltins "list" = some (.type "list") := by decide +kernel
theorem bi_tuple : bootBuiltins "tuple" = some (.type "tuple") := by decide +kernel
theorem bi_bool : bootBuiltins "bool" = some (.type "bool") := by decide +kernel
theorem bi_str : bootBuiltins "str" = some (.type "str") := by decide +kernel
theorem bi_dict : bootBuiltins "dict" = some (.type "dict") := by decide +kernel
theorem bi_len : bootBuiltins "len" = some (.builtin "len") := by decide +kernel
theorem bi_abs : bootBuiltins "abs" = some (.builtin "abs") := by decide +kernel
theorem bi_isinstance : bootBuiltins "isinstance" = some (.builtin "isinstance") := by decide +kernel
theorem bi_ValueError : bootBuiltins "ValueError" = some (.type "ValueError") := by decide +kernel
end Ov

set_option Elab.async false
set_option linter.all false
set_option maxRecDepth 100000
namespace Ov
open PySem PySem.Spec PyProof.Rows L2
/-! ### readings, step by step -/
section
variable {σ σ' : L2.St} {H H' : Hp} {t u : TS} {D : Ends} {te ta tb : TE} {tt tu : TT} {g : TG} {Q : VK} {QB : Bool → Hp → Prop} {i : Nat} {v : V} {r : R2} {QA : List V → Hp → Prop} {al ar : TA}
theorem q_seq (h : t { D with nx := u D } σ H) : tSeq t u D σ H := h
theorem q_asg (h : te σ H fun x H1 => g x σ H1 D.nx) : tAsg te g D σ H := h
theorem q_name {QS : L2.St → Hp → Prop} (h : QS (σ.set i (some v)) H) : gName i v σ H QS := h
theorem q_drop (h : te σ H fun _ H1 => D.nx σ H1) : tDrop te D σ H := h
theorem q_ret (h : te σ H D.rt) : tRet te D σ H := h
theorem q_retN (h : D.rt .non H) : tRetN D σ H := h
theorem q_next (h : D.nx σ H) : tNext D σ H := h
theorem q_break (h : D.bk σ H) : tBreak D σ H := h
theorem q_cont (h : D.ct σ H) : tCont D σ H := h
theorem q_ifS (h : tt σ H fun b H1 => if b = true then t D σ H1 else u D σ H1) : tIfS tt t u D σ H := h
theorem q_ifE (h : tt σ H fun c H1 => if c = true then ta σ H1 Q else tb σ H1 Q) : tIf tt ta tb σ H Q := h
theorem q_var (e : σ[i]? = some (some v)) (h : Q v H) : tVar i σ H Q := ⟨v, e, h⟩
theorem q_c (h : Q v H) : tC v σ H Q := h
theorem q_op (h : ta σ H fun x H1 => tb σ H1 fun y H2 => r x y H2 Q) : tOp r ta tb σ H Q := h
theorem q_un {r : V → Hp → VK → Prop} (h : ta σ H fun x H1 => r x H1 Q) : tUn r ta σ H Q := h
theorem q_test (h : te σ H fun x H' => ∃ k, x = .bl k ∧ QB k H') : tTest te σ H QB := h
theorem q_tB (h : te σ H fun x H' => ∃ k, x = .bl k ∧ QB k H') : tB te σ H QB := h
theorem q_bl {b : Bool} {R : Bool → Prop} (h : R b) : ∃ k, V.bl b = V.bl k ∧ R k := ⟨b, rfl, h⟩
theorem q_and (h : tt σ H fun c H1 => if c = true then tu σ H1 QB else QB false H1) : tAnd tt tu σ H QB := h
theorem q_or (h : tt σ H fun c H1 => if c = true then QB true H1 else tu σ H1 QB) : tOr tt tu σ H QB := h
theorem q_not (h : tt σ H fun c H1 => QB (!c) H1) : tNot tt σ H QB := h
theorem q_andV (h : ta σ H fun x H1 => ∃ c, x = .bl c ∧ if c = true then tb σ H1 Q else Q (.bl false) H1) : tAndV ta tb σ H Q := h
theorem q_orV (h : ta σ H fun x H1 => ∃ c, x = .bl c ∧ if c = true then Q (.bl true) H1 else tb σ H1 Q) : tOrV ta tb σ H Q := h
theorem q_notV (h : ta σ H fun x H1 => ∃ c, x = .bl c ∧ Q (.bl (!c)) H1) : tNotV ta σ H Q := h
theorem q_cons (h : te σ H fun x H1 => ar σ H1 fun xs H2 => QA (x :: xs) H2) : tCons te ar σ H QA := h
theorem q_nil (h : QA [] H) : tNil σ H QA := h
theorem q_call {sp : Sp} {dvs : List V} {E : XK} (h : al σ H fun vs H1 => sp (vs ++ dvs) H1 Q E) : tCall sp dvs E al σ H Q := h
theorem q_cb {r : List V → Hp → VK → Prop} (h : al σ H fun vs H1 => r vs H1 Q) : tCB r al σ H Q := h
theorem q_tup (h : al σ H fun xs H1 => xs.length ≤ sizeLine ∧ ∀ p, H1 p = none → Q (.ref p) (upd H1 p (.tup xs))) : tTup al σ H Q := h
theorem q_lst (h : al σ H fun xs H1 => xs.length ≤ sizeLine ∧ ∀ p, H1 p = none → Q (.ref p) (upd H1 p (.lst xs))) : tLst al σ H Q := h
theorem q_sl {r : V → Option Int → Option Int → Hp → VK → Prop} {tl th : TO} (h : te σ H fun x H1 => tl σ H1 fun l H2 => th σ H2 fun u H3 => r x l u H3 Q) : tSl r te tl th σ H Q := h
theorem q_noPart {QO : Option Int → Hp → Prop} (h : QO none H) : tNoPart σ H QO := h
theorem q_part {QO : Option Int → Hp → Prop} (h : te σ H fun x H1 => ∃ i, x = .int i ∧ QO (some i) H1) : tPart te σ H QO := h
theorem q_int {j : Int} {R : Int → Prop} (h : R j) : ∃ i, V.int j = V.int i ∧ R i := ⟨j, rfl, h⟩
theorem q_gsub {to ti : TE} {ts : TSet} {QS : L2.St → Hp → Prop} (h : to σ H fun o H1 => ti σ H1 fun i H2 => ts o i v H2 fun H3 => QS σ H3) : gSub to ti ts v σ H QS := h
theorem q_bm {K : PySem.W.Frag} {T : String} {r : V → List V → Hp → VK → Prop} (h : te σ H fun x H1 => tyV K T x H1 ∧ al σ H1 fun xs H2 => r x xs H2 Q) : tBM K T r te al σ H Q := h
theorem q_bm0 {K : PySem.W.Frag} {T : String} {r : V → List V → Hp → VK → Prop} (h : te σ H fun x H1 => tyV K T x H1 ∧ r x [] H1 Q) : tBM0 K T r te σ H Q := h
theorem q_for {wi : TI} {tb : TS} (h : wi σ H fun J H1 => ∃ W : Nat → Nat → L2.St → Hp → Prop, (∃ m, W 0 m σ H1) ∧ ∀ i m σ H, W i m σ H →
  (J.stop i H ∧ D.nx σ H) ∨ (J.go i H ∧ ∃ N : L2.St → Hp → Prop, (∀ σ' H', N σ' H' → ∃ m', m' < m ∧ W (i + 1) m' σ' H') ∧ ∀ x H', J.yld i H x H' → g x σ H' fun σ2 H2 => tb { D with nx := N, ct := N, bk := D.nx } σ2 H2)) : tFor wi g tb D σ H := h
/-! operators at values that are known -/
theorem q_addI {K : PySem.W.Frag} {i j : Int} (h : Q (.int (i + j)) H) : oAdd K (.int i) (.int j) H Q := h
theorem q_subI {i j : Int} (h : Q (.int (i - j)) H) : oSub (.int i) (.int j) H Q := h
theorem q_ltI {i j : Int} (h : Q (.bl (decide (i < j))) H) : oLt (.int i) (.int j) H Q := h
theorem q_leI {i j : Int} (h : Q (.bl (decide (i ≤ j))) H) : oLe (.int i) (.int j) H Q := h
theorem q_gtI {i j : Int} (h : Q (.bl (decide (j < i))) H) : oGt (.int i) (.int j) H Q := h
theorem q_geI {i j : Int} (h : Q (.bl (decide (j ≤ i))) H) : oGe (.int i) (.int j) H Q := h
theorem q_negI {i : Int} (h : Q (.int (-i)) H) : oNeg (.int i) H Q := h
theorem q_cIntI {i : Int} (h : Q (.int i) H) : cInt [.int i] H Q := h
theorem q_cIntB {k : Bool} (h : Q (.int (if k then 1 else 0)) H) : cInt [.bl k] H Q := h
theorem q_cAbs {i : Int} (h : Q (.int (i.natAbs : Int)) H) : cAbs [.int i] H Q := h
theorem q_modI {i j : Int} (hj : 0 < j) (h : Q (.int (i % j)) H) : oMod (.int i) (.int j) H Q := ⟨hj, h⟩
theorem q_eqS {K : PySem.W.Frag} {x y : V} (hs : scal x y = true) (h : Q (.bl (decide (x = y))) H) : oEq K x y H Q := .inl ⟨hs, h⟩
theorem q_neS {K : PySem.W.Frag} {x y : V} (hs : scal x y = true) (h : Q (.bl (!decide (x = y))) H) : oNe K x y H Q := .inl ⟨hs, h⟩
theorem q_eqD {K : PySem.W.Frag} {x y : V} {d e : PyData} (hx : Dp K H x d) (hy : Dp K H y e) (sx : SeqAt.shaped d = true) (sy : SeqAt.shaped e = true) (h : Q (.bl (PyData.eqv d e)) H) : oEq K x y H Q := .inr ⟨d, e, hx, hy, sx, sy, h⟩
theorem q_inD {K : PySem.W.Frag} {x : V} {p : Addr} {d : PyData} {ds : List PyData} (hx : Dp K H x d) (hy : Dp K H (.ref p) (.tuple ds) ∨ Dp K H (.ref p) (.list ds)) (sx : SeqAt.shaped d = true) (sy : SeqAt.shaped (.list ds) = true) (h : Q (.bl (ds.any fun z => PyData.eqv z d)) H) : oIn K x (.ref p) H Q := .inr ⟨d, ds, hx, hy, sx, sy, h⟩
theorem q_isN (h : Q (.bl (decide (v = .non))) H) : oIsN v .non H Q := ⟨rfl, h⟩
theorem q_notN (h : Q (.bl (!decide (v = .non))) H) : oNotN v .non H Q := ⟨rfl, h⟩
theorem q_ixS {K : PySem.W.Frag} {z : Str} {i : Int} {c : Nat} (hz : z.length ≤ sizeLine) (e : atI z.cps.toList i = some c) (h : Q (.str ⟨#[c]⟩) H) : oIx K (.str z) (.int i) H Q := ⟨c, hz, e, h⟩
theorem q_ixL {K : PySem.W.Frag} {p : Addr} {xs : List V} {i : Int} (hp : H p = some (.lst xs)) (e : atI xs i = some v) (h : Q v H) : oIx K (.ref p) (.int i) H Q := ⟨xs, v, .inl (SqL.of hp), e, h⟩
theorem q_ixT {K : PySem.W.Frag} {p : Addr} {xs : List V} {i : Int} (hp : H p = some (.tup xs)) (e : atI xs i = some v) (h : Q v H) : oIx K (.ref p) (.int i) H Q := ⟨xs, v, .inr (SqT.of hp), e, h⟩
theorem q_setL {p : Addr} {xs : List V} {k : Int} {j : Nat} {QH : Hp → Prop} (hp : H p = some (.lst xs)) (e : ixN xs.length k = some j) (h : QH (upd H p (.lst (xs.set j v)))) : rSetL (.ref p) (.int k) v H QH := ⟨p, xs, k, j, rfl, rfl, hp, e, h⟩
theorem q_lenL {K : PySem.W.Frag} {p : Addr} {xs : List V} (hp : H p = some (.lst xs)) (h : Q (.int xs.length) H) : cLen K [.ref p] H Q := ⟨_, xs.length, rfl, .inl ⟨xs, SqL.of hp, rfl⟩, h⟩
theorem q_lenT {K : PySem.W.Frag} {p : Addr} {xs : List V} (hp : H p = some (.tup xs)) (h : Q (.int xs.length) H) : cLen K [.ref p] H Q := ⟨_, xs.length, rfl, .inr ⟨xs, SqT.of hp, rfl⟩, h⟩
theorem q_lenS {K : PySem.W.Frag} {z : Str} (hz : z.length ≤ sizeLine) (h : Q (.int z.length) H) : cLen K [.str z] H Q := ⟨_, z.length, rfl, ⟨hz, rfl⟩, h⟩
theorem q_addS {K : PySem.W.Frag} {a b : Str} (hl : a.length + b.length ≤ sizeLine) (h : Q (.str (a ++ b)) H) : oAdd K (.str a) (.str b) H Q := ⟨hl, h⟩
theorem q_addL {K : PySem.W.Frag} {p q : Addr} {xs ys : List V} (hp : H p = some (.lst xs)) (hq : H q = some (.lst ys)) (hl : xs.length + ys.length ≤ sizeLine) (h : ∀ r, H r = none → Q (.ref r) (upd H r (.lst (xs ++ ys)))) : oAdd K (.ref p) (.ref q) H Q := .inl ⟨p, q, xs, ys, rfl, rfl, hp, hq, hl, h⟩
theorem q_mulI {i j : Int} (hc : CMulW i j) (h : Q (.int (i * j)) H) : oMul (.int i) (.int j) H Q := ⟨hc, h⟩
theorem q_divI {i j : Int} (hc : CDivW i j) (h : Q (.int (i / j)) H) : oDiv (.int i) (.int j) H Q := ⟨hc, h⟩
theorem q_powI {i j : Int} (hc : CPow i j) (h : Q (.int (i ^ j.toNat)) H) : oPow (.int i) (.int j) H Q := ⟨hc, h⟩
theorem q_slS {K : PySem.W.Frag} {z : Str} {lo hi : Option Int} (hz : z.length ≤ sizeLine) (h : Q (.str (cutS z lo hi)) H) : oSl K (.str z) lo hi H Q := ⟨hz, h⟩
theorem q_isi {K : PySem.W.Frag} {x : V} {n : String} (b : Bool) (hn : n ∈ tyNames) (ht : isTy x H n b) (h : Q (.bl b) H) : cIsi K [x, .ty n] H Q := ⟨x, n, b, rfl, hn, ht, h⟩
theorem q_inS {K : PySem.W.Frag} {c : Nat} {z : Str} (h : Q (.bl (decide (c ∈ z.cps.toList))) H) : oIn K (.str ⟨#[c]⟩) (.str z) H Q := ⟨c, rfl, h⟩
theorem q_notInS {K : PySem.W.Frag} {c : Nat} {z : Str} (h : Q (.bl (!decide (c ∈ z.cps.toList))) H) : oNotIn K (.str ⟨#[c]⟩) (.str z) H Q := ⟨c, rfl, h⟩
theorem q_append {p : Addr} {xs : List V} (hp : H p = some (.lst xs)) (hl : xs.length < sizeLine) (h : Q .non (upd H p (.lst (xs ++ [v])))) : rAppend (.ref p) [v] H Q := ⟨p, xs, v, rfl, rfl, hp, hl, h⟩
end
theorem q_dec {p A B : Prop} [Decidable p] (h1 : p → A) (h2 : ¬ p → B) : if decide p = true then A else B := by
  by_cases h : p
  · rw [if_pos (decide_eq_true h)]
    exact h1 h
  · rw [if_neg (by rw [decide_eq_false h]; exact Bool.false_ne_true)]
    exact h2 h
theorem q_decT {p A B : Prop} [Decidable p] (h : p) (h1 : A) : if decide p = true then A else B := by
  rw [if_pos (decide_eq_true h)]
  exact h1
theorem q_decF {p A B : Prop} [Decidable p] (h : ¬ p) (h1 : B) : if decide p = true then A else B := by
  rw [if_neg (by rw [decide_eq_false h]; exact Bool.false_ne_true)]
  exact h1
theorem q_ndec {p A B : Prop} [Decidable p] (h1 : ¬ p → A) (h2 : p → B) : if (!decide p) = true then A else B := by
  by_cases h : p
  · rw [if_neg (by rw [decide_eq_true h]; decide)]
    exact h2 h
  · rw [if_pos (by rw [decide_eq_false h]; decide)]
    exact h1 h
theorem q_T {A B : Prop} (h : A) : if true = true then A else B := by
  rw [if_pos rfl]
  exact h
theorem q_F {A B : Prop} (h : B) : if false = true then A else B := by
  rw [if_neg Bool.false_ne_true]
  exact h
theorem q_b {A B : Prop} {b : Bool} (h1 : b = true → A) (h2 : b = false → B) : if b = true then A else B := by
  cases b with
  | true => exact q_T (h1 rfl)
  | false => exact q_F (h2 rfl)

/-! ### pure tests and values, as a whole -/
def Val (te : TE) (σ : L2.St) (H : Hp) (v : V) : Prop := ∀ Q : VK, Q v H → te σ H Q
def Ans (t : TT) (σ : L2.St) (H : Hp) (b : Bool) : Prop := ∀ Q : Bool → Hp → Prop, Q b H → t σ H Q
section
variable {σ : L2.St} {H : Hp} {t u : TS} {D : Ends} {te ta tb : TE} {tt tu : TT} {i : Nat} {v x y z : V} {r : R2} {b b1 b2 : Bool} {Q : VK} {K : PySem.W.Frag} {p : Addr} {xs : List V} {k : Int}
theorem q_ifA (h : Ans tt σ H b) (h1 : b = true → t D σ H) (h2 : b = false → u D σ H) : tIfS tt t u D σ H := by
  refine h _ ?_
  cases b with
  | true => exact q_T (h1 rfl)
  | false => exact q_F (h2 rfl)
theorem q_val (h : Val te σ H v) (q : Q v H) : te σ H Q := h Q q
theorem an_test (h : Val te σ H (.bl b)) : Ans (tTest te) σ H b := fun Q q => h _ ⟨b, rfl, q⟩
theorem an_tB (h : Val te σ H (.bl b)) : Ans (tB te) σ H b := fun Q q => h _ ⟨b, rfl, q⟩
theorem an_and (h1 : Ans tt σ H b1) (h2 : b1 = true → Ans tu σ H b2) : Ans (tAnd tt tu) σ H (b1 && b2) := by
  intro Q q
  refine h1 _ ?_
  cases b1 with
  | true => exact q_T (h2 rfl Q q)
  | false => exact q_F q
theorem an_or (h1 : Ans tt σ H b1) (h2 : b1 = false → Ans tu σ H b2) : Ans (tOr tt tu) σ H (b1 || b2) := by
  intro Q q
  refine h1 _ ?_
  cases b1 with
  | true => exact q_T q
  | false => exact q_F (h2 rfl Q q)
theorem an_not (h : Ans tt σ H b) : Ans (tNot tt) σ H (!b) := fun Q q => h _ q
theorem Ans.to (h : Ans tt σ H b) (e : b = b1) : Ans tt σ H b1 := e ▸ h
theorem va_var (e : σ[i]? = some (some v)) : Val (tVar i) σ H v := fun _ q => ⟨v, e, q⟩
theorem va_c : Val (tC v) σ H v := fun _ q => q
theorem va_op (ha : Val ta σ H x) (hb : Val tb σ H y) (hr : ∀ Q : VK, Q z H → r x y H Q) : Val (tOp r ta tb) σ H z := fun Q q => ha _ (hb _ (hr Q q))
theorem va_eqS (ha : Val ta σ H x) (hb : Val tb σ H y) (hs : scal x y = true) : Val (tOp (oEq K) ta tb) σ H (.bl (decide (x = y))) := va_op ha hb fun _ q => q_eqS hs q
theorem va_neS (ha : Val ta σ H x) (hb : Val tb σ H y) (hs : scal x y = true) : Val (tOp (oNe K) ta tb) σ H (.bl (!decide (x = y))) := va_op ha hb fun _ q => q_neS hs q
theorem va_ixT (ha : Val ta σ H (.ref p)) (hb : Val tb σ H (.int k)) (hp : H p = some (.tup xs)) (e : atI xs k = some v) : Val (tOp (oIx K) ta tb) σ H v := va_op ha hb fun _ q => q_ixT hp e q
theorem va_ixL (ha : Val ta σ H (.ref p)) (hb : Val tb σ H (.int k)) (hp : H p = some (.lst xs)) (e : atI xs k = some v) : Val (tOp (oIx K) ta tb) σ H v := va_op ha hb fun _ q => q_ixL hp e q
theorem va_cmp {f : Int → Int → Bool} {j : Int} (ha : Val ta σ H (.int k)) (hb : Val tb σ H (.int j)) : Val (tOp (oCmp f) ta tb) σ H (.bl (f k j)) := va_op ha hb fun _ q => q
theorem va_add {j : Int} (ha : Val ta σ H (.int k)) (hb : Val tb σ H (.int j)) : Val (tOp (oAdd K) ta tb) σ H (.int (k + j)) := va_op ha hb fun _ q => q
theorem va_lenS {s : Str} {ar : TA} (ha : Val ta σ H (.str s)) (hl : s.length ≤ sizeLine) : Val (tCB (cLen K) (tCons ta tNil)) σ H (.int s.length) := fun Q q => ha _ (q_lenS hl q)
theorem va_lenL {ar : TA} (ha : Val ta σ H (.ref p)) (hp : H p = some (.lst xs)) : Val (tCB (cLen K) (tCons ta tNil)) σ H (.int xs.length) := fun Q q => ha _ (q_lenL hp q)
theorem va_lenT {ar : TA} (ha : Val ta σ H (.ref p)) (hp : H p = some (.tup xs)) : Val (tCB (cLen K) (tCons ta tNil)) σ H (.int xs.length) := fun Q q => ha _ (q_lenT hp q)
theorem va_isN (ha : Val ta σ H x) : Val (tOp oIsN ta (tC .non)) σ H (.bl (decide (x = .non))) := va_op ha va_c fun _ q => q_isN q
theorem va_notN (ha : Val ta σ H x) : Val (tOp oNotN ta (tC .non)) σ H (.bl (!decide (x = .non))) := va_op ha va_c fun _ q => q_notN q
theorem va_isi {n : String} (b : Bool) (ha : Val ta σ H x) (hn : n ∈ tyNames) (ht : isTy x H n b) : Val (tCB (cIsi K) (tCons ta (tCons (tC (.ty n)) tNil))) σ H (.bl b) := fun Q q => ha _ (q_isi (K := K) b hn ht q)
theorem va_andV (ha : Val ta σ H (.bl b1)) (hb : b1 = true → Val tb σ H (.bl b2)) : Val (tAndV ta tb) σ H (.bl (b1 && b2)) := by
  intro Q q
  refine ha _ ⟨b1, rfl, ?_⟩
  cases b1 with
  | true => exact q_T (hb rfl Q q)
  | false => exact q_F q
end

/-! ### loops -/
section
variable {K : PySem.W.Frag} {σ : L2.St} {H : Hp} {D : Ends} {g : TG} {tb : TS} {te : TE} {i : Nat} {a : Addr} {xs : List V}
/-- over a list that the body leaves as it is -/
theorem q_forL (e : σ[i]? = some (some (.ref a))) (Pv : Nat → L2.St → Hp → Prop) (h0 : Pv 0 σ H) (hl : ∀ i σ H, i ≤ xs.length → Pv i σ H → SqL K H a xs)
    (hs : ∀ i x σ H, xs[i]? = some x → Pv i σ H → g x σ H fun σ2 H2 => tb { D with nx := Pv (i + 1), ct := Pv (i + 1), bk := D.nx } σ2 H2) (hd : ∀ σ H, Pv xs.length σ H → D.nx σ H) : tFor (iAny K (tVar i)) g tb D σ H :=
  Or.inl ⟨_, e, a, rfl, ⟨_, hl 0 σ H (Nat.zero_le _) h0⟩, for_list (K := K) (a := a) (xs := xs) Pv h0 hl hs hd⟩
/-- over a list that is written or made there -/
theorem q_forN {al : TA} (h : al σ H fun vs H1 => vs.length ≤ sizeLine ∧ ∀ p, H1 p = none → ∃ Pv : Nat → L2.St → Hp → Prop, Pv 0 σ (upd H1 p (.lst vs)) ∧ (∀ i σ H, i ≤ vs.length → Pv i σ H → SqL K H p vs) ∧
    (∀ i x σ H, vs[i]? = some x → Pv i σ H → g x σ H fun σ2 H2 => tb { D with nx := Pv (i + 1), ct := Pv (i + 1), bk := D.nx } σ2 H2) ∧ (∀ σ H, Pv vs.length σ H → D.nx σ H))
    (mono : ∀ Q Q' : List V → Hp → Prop, (∀ vs H, Q vs H → Q' vs H) → al σ H Q → al σ H Q') : tFor (iAny K (tLst al)) g tb D σ H := by
  refine Or.inl ?_
  show tLst al σ H _
  refine mono _ _ (fun vs H1 q => ?_) h
  obtain ⟨hl, q⟩ := q
  refine ⟨hl, fun p hp => ?_⟩
  obtain ⟨Pv, h0, h1, h2, h3⟩ := q p hp
  exact ⟨p, rfl, ⟨_, h1 0 _ _ (Nat.zero_le _) h0⟩, for_list (K := K) (a := p) (xs := vs) Pv h0 h1 h2 h3⟩
/-- over range(n) -/
theorem q_forR {n : Int} (hv : Val te σ H (.int n)) (h1 : -(2 ^ 62) ≤ n) (h2 : n < 2 ^ 62) (Pv : Nat → L2.St → Hp → Prop) (h0 : Pv 0 σ H)
    (hs : ∀ i σ H, i < n.toNat → Pv i σ H → g (.int (0 + i)) σ H fun σ2 H2 => tb { D with nx := Pv (i + 1), ct := Pv (i + 1), bk := D.nx } σ2 H2) (hd : ∀ σ H, Pv n.toNat σ H → D.nx σ H) : tFor (iRng1 (tCons te tNil)) g tb D σ H :=
  hv _ ⟨n, rfl, h1, h2, for_range Pv h0 hs hd⟩
/-- over a text -/
theorem q_forS {z : Str} (e : σ[i]? = some (some (.str z))) (Pv : Nat → L2.St → Hp → Prop) (h0 : Pv 0 σ H)
    (hs : ∀ i c σ H, z.cps.toList[i]? = some c → Pv i σ H → g (.str ⟨#[c]⟩) σ H fun σ2 H2 => tb { D with nx := Pv (i + 1), ct := Pv (i + 1), bk := D.nx } σ2 H2) (hd : ∀ σ H, Pv z.length σ H → D.nx σ H) : tFor (iAny K (tVar i)) g tb D σ H := by
  refine Or.inr (Or.inr ⟨_, e, z, rfl, ?_⟩)
  refine ⟨fun i m σ H => m = z.length - i ∧ i ≤ z.length ∧ Pv i σ H, ⟨z.length, by simp, Nat.zero_le _, h0⟩, ?_⟩
  rintro i m σ H ⟨rfl, hi, p⟩
  by_cases hlt : i < z.length
  · refine .inr ⟨hlt, Pv (i + 1), fun σ' H' p' => ⟨z.length - (i + 1), by omega, rfl, hlt, p'⟩, fun x H' y => ?_⟩
    obtain ⟨e, c, hc, rfl⟩ := y
    subst e
    exact hs i c σ _ (by rw [Array.getElem?_toList]; exact hc) p
  · have e : i = z.length := by omega
    subst e
    exact .inl ⟨Nat.le_refl _, hd σ H p⟩
end
end Ov

set_option Elab.async false
set_option linter.all false
set_option maxRecDepth 100000
set_option maxHeartbeats 2000000
/-! own errors over ValueError whose __init__ says super().__init__(a text) and keeps one field -/
namespace PySem
namespace ExS
open PySem.W PySem.Calls PyProof.Rows PySem.HandSPX PySem.Spec
/-- what the written part says of the class called cn, at C, and of its __init__, at fI; its one field is fn -/
structure ETxt (P : Program) (K : Frag) (mg : Str → Option Value) (cn fn : Str) (C fI : Addr) : Prop where
  gC : mg cn = some (.ref C)
  cls : ∃ nm q N bs bm sn sub ab col dd k0 k1 k2 k3 k5, K.lookup C = some (excClassObj nm q C N bs bm true sn sub ab col dd k0 k1 k2 k3 k5 "ValueError.__new__") ∧ refsVE bm = true
  alo : ks_superIn K C C "__init__" = some (some (.builtin "ValueError.__init__"))
  sa : findIn K (.ref C) "__setattr__" = some (some (.builtin "object.__setattr__"))
  noN : findIn K (.ref C) fn = some none
  iC : findIn K (.ref C) "__init__" = some (some (.ref fI))
  tC : typeIn K (.ref fI) = some (.type "function")
  kC : keepIn K (.ref C) = true
  exC : subIn K (.ref C) (.type "BaseException") = some true
  veC : subIn K (.ref C) (.type "ValueError") = some true
  slf : mroIn K C (.ref C) = some true
  tyC : typeIn K (.ref C) = some (.type "type")
  opq : nsIn K cStatics "thirdparty.any" = some none
  sup : mg "super" = none
  top : (P.main.scope.names.lookup ("super" : Str)).isSome = false
  fun_ : ∃ (oc : Value) (od : Option Addr) (params : Arguments) (body : List Stmt) (scope : Scope) (qual : Str) (doc pm : Value) (an : Option Addr) (cda cc : Addr) (ct : Value) (osl : Array (Option Value)) (p1 p2 a1 a2 a3 a4 a5 a6 b1 b2 b3 b4 : Pos) (j : Nat) (txt : Str)
      (ccl cl : Value) (cdd cld : Option Addr) (vs : Array Value) (ccs csl : Array (Option Value)) (file : Str) (tf : Tok),
    K.lookup fI = some ⟨oc, od, .func (ksFn "__init__" qual params body scope .none .none doc pm an (.ref cda) ct cc), osl⟩ ∧ codeIn K (.ref cda) qual = true ∧
    params = { posonlyargs := [], args := [{ arg := "self", annotation := none, pos := p1 }, { arg := fn, annotation := none, pos := p2 }], vararg := none, kwonlyargs := [], kw_defaults := [], kwarg := none, defaults := [] } ∧
    body = [.Expr (.Call (.Attribute (.Call (.Name "super" a1) [] [] a2) "__init__" a3) [.Constant (.str txt) j a4] [] a5) a6, .Assign [.Attribute (.Name "self" b1) fn b2] (.Name fn b3) b4] ∧
    scope = { kind := .function, names := [("self", .local), (fn, .local), ("__class__", .free), ("super", .globalImplicit)], isGenerator := false, isCoroutine := false, more := [] } ∧
    (∀ (x : Addr) (v : Value), bindArgs (ksFn "__init__" qual params body scope .none .none doc pm an (.ref cda) ct cc) ⟨[.ref x, v], []⟩ = pure [(("self" : Str), Value.ref x), (fn, v)]) ∧
    (∃ pl : Sem Bool, ∀ env : Env, eval (.Call (.Attribute (.Call (.Name "super" a1) [] [] a2) "__init__" a3) [.Constant (.str txt) j a4] [] a5) env = (do
      let ov ← attributeBase (.Call (.Name "super" a1) [] [] a2) "__init__" env (eval (.Call (.Name "super" a1) [] [] a2) env)
      standAt a3.atName
      let (f, first) ← holding [ov] (getMethod ov "__init__" pl)
      callWith a5 f first (backTo a5 (starEach [.Constant (.str txt) j a4] env)) [])) ∧
    (∀ env : Env, swapsWith (.Call (.Attribute (.Call (.Name "super" a1) [] [] a2) "__init__" a3) [.Constant (.str txt) j a4] [] a5) none a6.line env = pure false) ∧
    (∀ env : Env, swapsWith (.Name fn b3) (some (.Attribute (.Name "self" b1) fn b2)) b4.line env = pure false) ∧
    K.lookup cda = some ⟨ccl, cdd, .fields vs, ccs⟩ ∧ vs[2]? = some (.str file tf) ∧ ((P.main.file : Str) == file) = true ∧ K.lookup cc = some ⟨cl, cld, .cell (some (.ref C)), csl⟩
/-- what __init__ leaves of a fresh exception at x -/
structure IEnd (fn : Str) (h h' : Heap) (x C dx t1 : Addr) (v : Value) : Prop where
  keep : ∀ b o, b ≠ x → h.get? b = some o → h'.get? b = some o
  obj : h'.get? x = some { cls := .ref C, dict := some dx, data := .fields #[.ref t1, .none, .none, .none, .bool false, .none] }
  dbig : h.objs.size ≤ dx
  dne : dx ≠ x
  ns : h'.Ns1 dx (fun y => if y = fn then some v else none)
theorem ldK {M : Model} {s : Shared} {env : Env} {L : Addr} {m : Str → Option Value} {x : Str} {pos : Pos} {v : Value} {Q : Value → Shared → Prop} {A : Around} {E : Value → Shared → Prop} (hL : env.locals = L) (hn : s.heap.Ns L m) (hv : m x = some v) (h : Q v s)
    (hk : env.scope.kind = .function) (hl : env.kindOf x = some .local) (hd : (x == ("__debug__" : Str)) = false) :
    wpAny M A (eval (.Name x pos) env) Q E s := by
  subst hL
  exact wpAny_Name (wpAny_loadName_local hk hl hn hv h) hd
theorem callWithK {M : Model} {A : Around} {E : Value → Shared → Prop} {s : Shared} {i : String} {u x : Addr} {pos : Pos} {env : Env} {e : Expr} {rest : List Expr} {Q : Value → Shared → Prop}
    (h : wpAny M A (spliced (backTo pos (starEach (e :: rest) env))) (fun vs s₁ => KxsAt i u x s₁.heap ∧ wpAny M A (call (.ref u) vs) Q E s₁) E s)
    (he : starEach (e :: rest) env = (false, eval e env) :: starEach rest env := by rfl) (hplain : (backTo pos (starEach rest env)).any (·.1) = false := by rfl) :
    wpAny M A (callWith pos (.ref u) [] (backTo pos (starEach (e :: rest) env)) []) Q E s := by
  rw [he] at h ⊢
  refine kxs_callWith (i := i) (x := x) (by show (false || (backTo pos (starEach rest env)).any (·.1)) = false; rw [hplain]; rfl) ?_
  exact evalArgs_plain h
section
variable {P : Program} {w : World} {A : Around} {E : Value → Shared → Prop} {R : Result → Shared → Prop} {s : Shared} {K : Frag} {mg : Str → Option Value} {C fI : Addr} {cn fn : Str}
theorem e_init (T : ETxt P K mg cn fn C fI) (hfn : fn ≠ "self") (hfd : (fn == ("__debug__" : Str)) = false) (hfs : (fn == ("super" : Str)) = false) (hfc : (fn == ("__class__" : Str)) = false) {x t0 : Addr} {v : Value} {mb : Str → Option Value} (X : K.In s.heap) (hg : s.heap.Ns mainGlobals mg) (hb : s.heap.Ns builtinsNs mb) (hbb : ∀ y : Str, y ≠ "__name__" → mb y = bootBuiltins y)
    (hlim : s.heap.NoLimit) (hx : s.heap.get? x = some (excO C t0)) (hnx : K.lookup x = none) (hroom : A.depth < recursionLimit)
    (hq : ∀ h' tk dx t1, IEnd fn s.heap h' x C dx t1 v → R (.ok (.ret .none)) { s with heap := h', toks := tk }) :
    codeAny (model P w) A (.call (.ref fI) ⟨[.ref x, v], []⟩) R s := by
  obtain ⟨oc, od, params, body, scope, qual, doc, pm, an, cda, cc, ct, osl, p1, p2, a1, a2, a3, a4, a5, a6, b1, b2, b3, b4, j, txt, ccl, cl, cdd, cld, vs, ccs, csl, file, tf, ho, hcd, rfl, rfl, rfl, hbn, ⟨pl, hev⟩, hsw1, hsw2, hcda, hvs, hfile, hcell⟩ := T.fun_
  obtain ⟨nm, q, N, bs, bm, sn, sub, ab, col, dd, k0, k1, k2, k3, k5, hC, hbm⟩ := T.cls
  have hcl : clsIn K C = some { name := nm, bases := bs, mro := .ref C :: bm, ns := N, qualname := q, hasDict := true, slotNames := sn, subclasses := sub, abstract := ab, collection := col, hasDel := false } := by unfold clsIn; rw [hC] <;> rfl
  have hal : alongIn K "__init__" (((Value.ref C :: bm).dropWhile (· != .ref C)).drop 1) = some (some (.builtin "ValueError.__init__")) := by
    have z := T.alo
    unfold ks_superIn at z
    rw [hcl] at z
    exact z
  have hsf : (("self" : Str) == fn) = false := by simpa using fun e => hfn e.symm
  have hfs' : (fn == ("self" : Str)) = false := by simpa using hfn
  have lk_self : List.lookup ("self" : Str) [(("self" : Str), NameKind.local), (fn, .local), ("__class__", .free), ("super", .globalImplicit)] = some .local := by simp [List.lookup]
  have lk_fn : List.lookup fn [(("self" : Str), NameKind.local), (fn, .local), ("__class__", .free), ("super", .globalImplicit)] = some .local := by simp [List.lookup, hfs']
  have e1 : (("super" : Str) == ("self" : Str)) = false := by decide
  have e2 : (("super" : Str) == fn) = false := by
    have z : ¬ fn = "super" := by simpa using hfs
    simpa using fun e => z e.symm
  have e3 : (("super" : Str) == ("__class__" : Str)) = false := by decide
  have e4 : (("__class__" : Str) == ("self" : Str)) = false := by decide
  have e5 : (("__class__" : Str) == fn) = false := by
    have z : ¬ fn = "__class__" := by simpa using hfc
    simpa using fun e => z e.symm
  have lk_super : List.lookup ("super" : Str) [(("self" : Str), NameKind.local), (fn, .local), ("__class__", .free), ("super", .globalImplicit)] = some .globalImplicit := by simp [List.lookup, e1, e2, e3]
  have lk_cls : List.lookup ("__class__" : Str) [(("self" : Str), NameKind.local), (fn, .local), ("__class__", .free), ("super", .globalImplicit)] = some .free := by simp [List.lookup, e4, e5]
  refine ks_codeAny_call_defAt (binds := [("self", .ref x), (fn, v)]) hroom (X _ _ ho) rfl hlim (codeRec_of X hcd) rfl (BindsTo.of_eq ?_) ?_ ?_ (fun h₁ hns k => ?_) rfl rfl rfl
  · exact hbn x v
  · intro y hy
    simp only [List.mem_cons, List.not_mem_nil, or_false] at hy
    rcases hy with rfl | rfl | rfl | rfl <;> exact fun e => nomatch e
  · intro y hy
    simp only [List.mem_cons, List.not_mem_nil, or_false] at hy
    rcases hy with rfl | rfl
    · exact lk_self
    · exact lk_fn
  have X₁ : K.In h₁ := X.keeps k
  have hx₁ := k _ _ hx
  refine ks_wpAt_execs_cons (ks_wpAt_Expr_any (ks_wpAt_MethodCall ?_ (hev _)) rfl (hsw1 _))
  obtain ⟨oD, hD1, hD2⟩ : ∃ oD, h₁.get? C = some oD ∧ oD.data = .cls { name := nm, bases := bs, mro := .ref C :: bm, ns := N, qualname := q, hasDict := true, slotNames := sn, subclasses := sub, abstract := ab, collection := col, hasDel := false } := ⟨_, X₁ _ _ hC, rfl⟩
  have hkg : ∀ b o, s.heap.get? b = some o → h₁.get? b = some o := k
  refine ks_wpAt_super_base lk_super lk_cls (by decide) rfl (X₁ _ _ ho) rfl rfl rfl (X₁ _ _ hcda) rfl hvs hfile T.top ?_
  refine ks_loadName_global rfl lk_super (loadGlobal_builtin (hg.keeps k) T.sup (hb.keeps k) ((hbb _ (by decide +kernel)).trans (by decide +kernel)) ⟨rfl, ?_⟩)
  refine wpAny_loadName_free rfl lk_cls rfl ⟨_, X₁ _ _ hcell, rfl⟩ ?_
  refine wpAny_loadName_local rfl lk_self hns (v := .ref x) (by simp [List.lookup, hsf]) ?_
  refine ks_wpAny_isType_cls hD1 hD2 ⟨rfl, ?_⟩
  refine ks_wpAny_call_super hD1 hD2 hx₁ rfl (fun c e => nomatch e) (looks_mroIn X₁ T.slf) (fun h₂ e k₂ => ?_)
  -- its __init__, bound
  have X₂ : K.In h₂ := X₁.keeps k₂
  have hx₂ := k₂ _ _ hx₁
  have hxC : x ≠ C := fun z => by rw [z, hC] at hnx; cases hnx
  have I₂ : InstAt h₂ x (excO C t0) C none := ⟨hx₂, rfl, rfl, trivial⟩
  refine kxs_getMethod kxs_ValueError e (looks_opaque X₂ T.opq) (l₀ := .ref C :: bm) (fun A Q E s k q => wpAny_bind ((looks_clsIn X₂ hcl) A _ E s k (wpAny_pure q))) rfl X₂ hal (I₂.type.andThen (looks_subIn X₂ T.veC)) hxC (by decide) ?_
  -- the call
  have k₃ : ∀ b o, h₂.get? b = some o → (h₂.push (kxs_mw "ValueError.__init__" x)).get? b = some o := fun b o z => Heap.get?_push_of_some _ z
  have X₃ : K.In (h₂.push (kxs_mw "ValueError.__init__" x)) := X₂.keeps k₃
  have hx₃ := k₃ _ _ hx₂
  have hm₃ : (h₂.push (kxs_mw "ValueError.__init__" x)).get? h₂.objs.size = some (kxs_mw "ValueError.__init__" x) := Heap.get?_push_at rfl rfl
  generalize (h₂.push (kxs_mw "ValueError.__init__" x)) = h₃ at k₃ X₃ hx₃ hm₃ ⊢
  show wpAny _ _ (callWith a5 (.ref h₂.objs.size) [] (backTo a5 (starEach [.Constant (.str txt) j a4] _)) []) _ _ _
  refine callWithK (i := "ValueError.__init__") (x := x) (spliced_cons (Calls.Constant_str (pos := a4) (k := j) (spliced_nil ⟨hm₃, ?_⟩)))
  -- ValueError.__init__ lays the args anew
  refine wpAny_call (codeAny_of_tree ?_)
  show wpAny _ _ (callAny (.ref h₂.objs.size) ⟨_, []⟩) _ _ _
  simp only [callAny]
  refine wpAny_bind (wpAny_load hm₃ ?_)
  simp only [kxs_mw, show (Value.type "method-wrapper" == Value.type "method" || Value.type "method-wrapper" == Value.type "builtin_function_or_method" || Value.type "method-wrapper" == Value.type "method-wrapper") = true by decide, if_true]
  refine KFB.if_so (by decide) ?_
  refine wpAny_bind (check_bound_init F.excBase_ValueError.toExcCallFacts (X₃ _ _ hC) hx₃ rfl ?_)
  refine wpAny_bind (wpAny_pure (wpAny_pure ?_))
  refine ⟨plainId_quiet F.excBase_ValueError.init.plain _, codeAny_builtin F.excBase_ValueError.initEntry ?_⟩
  refine exc_init_tree (cls := .ref C) (t0 := t0) (dv := none) (c2 := .none) (c3 := .none) (b4 := .bool false) hx₃ (by rw [sizeLine_eq]; exact (by decide : 1 ≤ 16777216)) (fun h₄ k₄ hx₄ _ => ?_)
  -- the value is dropped; self.F = F
  have k₁₄ : ∀ b o, b ≠ x → h₁.get? b = some o → h₄.get? b = some o := fun b o hb z => k₄ b o hb (k₃ _ _ (k₂ _ _ z))
  have X₄ : K.In h₄ := fun a o z => k₁₄ a o (fun e => by rw [e, hnx] at z; cases z) (X₁ a o z)
  have hxL : s.heap.objs.size ≠ x := Nat.ne_of_gt (Heap.lt_size hx)
  have hn₄ : h₄.Ns s.heap.objs.size (fun y => List.lookup y ([(("self" : Str), Value.ref x), (fn, v)].reverse)) := by
    obtain ⟨oL, es, ep, hL, r⟩ := hns
    exact ⟨oL, es, ep, k₁₄ _ _ hxL hL, r⟩
  have hsz : s.heap.objs.size < h₁.objs.size := hns.lt
  refine ks_wpAt_execs_cons (ks_wpAt_Assign_Attr (wpAt_of_wpAny ?_) (hsw2 _))
  refine ldK rfl hn₄ (v := v) (by simp [List.lookup]) ?_ rfl lk_fn hfd
  refine ldK rfl hn₄ (v := .ref x) (by simp [List.lookup, hsf]) ?_ rfl lk_self (by decide)
  refine set_plain X₄ (ox := excO C h₃.objs.size) (od := none) ⟨hx₄, rfl, rfl, trivial⟩ T.sa ?_
  refine exc_osa X₄ hx₄ hcl (show refsVE (.ref C :: bm) = true from hbm) rfl T.noN (fun h₅ tk₅ dx k₅ dn dne hx₅ hn₅ => ?_)
  refine wpAt_of_wpAny (wpAny_execs_nil (hq h₅ tk₅ dx _ ⟨fun b o hb z => k₅ b o hb (k₁₄ b o hb (k b o z)), hx₅, ?_, dne, hn₅⟩))
  have z : s.heap.objs.size < h₄.objs.size := hn₄.lt
  exact Nat.le_of_lt (Nat.lt_of_lt_of_le z dn)
/-- a made one -/
structure EMade (fn : Str) (h h' : Heap) (e C d : Addr) (v : Value) : Prop where
  keep : ∀ b o, h.get? b = some o → h'.get? b = some o
  new : h.objs.size ≤ e
  obj : ∃ oe vs, h'.get? e = some oe ∧ oe.cls = .ref C ∧ oe.dict = some d ∧ oe.data = .fields vs ∧ vs[1]? = some .none
  dbig : h.objs.size ≤ d
  dne : d ≠ e
  ns : h'.Ns1 d (fun y => if y = fn then some v else none)
theorem one_size (v : Value) : [v].length ≤ sizeLine := by
  rw [sizeLine_eq]
  exact (by decide : 1 ≤ 16777216)
/-- the field's name -/
structure FnOk (fn : Str) : Prop where
  ns : fn ≠ "self"
  fd : (fn == ("__debug__" : Str)) = false
  fs : (fn == ("super" : Str)) = false
  fc : (fn == ("__class__" : Str)) = false
theorem e_made (T : ETxt P K mg cn fn C fI) (N0 : FnOk fn) {v : Value} {mb : Str → Option Value} (X : K.In s.heap) (hg : s.heap.Ns mainGlobals mg) (hb : s.heap.Ns builtinsNs mb) (hbb : ∀ y : Str, y ≠ "__name__" → mb y = bootBuiltins y) (hlim : s.heap.NoLimit) (hroom : A.depth + 1 < recursionLimit)
    (hq : ∀ h' tk e d, EMade fn s.heap h' e C d v → R (.ok (.ret (.ref e))) { s with heap := h', toks := tk }) :
    codeAny (model P w) A (.call (.ref C) ⟨[v], []⟩) R s := by
  obtain ⟨nm, q, N, bs, bm, sn, sub, ab, col, dd, k0, k1, k2, k3, k5, hC, hbm⟩ := T.cls
  obtain ⟨hp, g, dr, tk, os⟩ := s
  have k : ∀ b o, hp.get? b = some o → ((hp.push (kdv_tup [v])).push (excO C hp.objs.size)).get? b = some o := fun b o e => Heap.get?_push_of_some _ (Heap.get?_push_of_some _ e)
  have hget : ((hp.push (kdv_tup [v])).push (excO C hp.objs.size)).get? (hp.objs.size + 1) = some (excO C hp.objs.size) := by heap_get
  have hnx : K.lookup (hp.objs.size + 1) = none := by
    cases e : K.lookup (hp.objs.size + 1) with
    | none => rfl
    | some o =>
      have z : hp.get? (hp.objs.size + 1) = some o := X _ _ e
      exact absurd (Nat.lt_of_succ_lt (Heap.lt_size z)) (Nat.lt_irrefl _)
  refine call_own F.excBase_ValueError (fun X => refsVE_contains X bm hbm) (X _ _ hC) (looks_findIn X T.iC) (fun self => bind_fn X self T.tC) (one_size v) ?_
  refine e_init (s := ⟨(hp.push (kdv_tup [v])).push (excO C hp.objs.size), g, dr, tk, os⟩) T N0.ns N0.fd N0.fs N0.fc (X.keeps k) (hg.keeps k) (hb.keeps k) hbb (hlim.keeps k) hget hnx ?_ fun h' tk' dx t1 ⟨k', hx, dn, dne, hns⟩ => ?_
  · show A.depth + 1 < recursionLimit
    exact hroom
  · have old : ∀ b o, hp.get? b = some o → h'.get? b = some o := fun b o e => k' b o (Nat.ne_of_lt (Nat.lt_succ_of_lt (Heap.lt_size e))) (k b o e)
    have z : hp.objs.size + 1 + 1 ≤ dx := by
      have q := dn
      rw [Heap.size_push, Heap.size_push] at q
      exact q
    exact ⟨rfl, hq h' tk' (hp.objs.size + 1) dx ⟨old, Nat.le_succ _, ⟨_, _, hx, rfl, rfl, rfl, rfl⟩, Nat.le_trans (Nat.le_trans (Nat.le_succ _) (Nat.le_succ _)) z, dne, hns⟩⟩
end
end ExS
end PySem
namespace Ov
open PySem PySem.Spec PyProof.Rows L2
theorem relO_one {fn : Str} {v : V} {v' : Value} (r : RelV v v') (f : Str) : RelO (List.lookup f [(fn, v)]) (if f = fn then some v' else none) := by
  by_cases hw : f = fn
  · subst hw
    rw [if_pos rfl, show List.lookup f [(f, v)] = some v by simp [List.lookup]]
    exact r
  · rw [if_neg hw, show List.lookup f [(fn, v)] = none by
      have qw : (f == fn) = false := by simpa using hw
      simp [List.lookup, qw]]
    trivial
section
variable {X : Cx} {C fI : Addr} {cn fn : Str}
/-- E(e), E an own error -/
def tMkE (C : Addr) (fn : Str) (ta : TA) : L2.St → Hp → XK → Prop := fun σ H Q => ta σ H fun vs H1 => ∃ v, vs = [v] ∧ ∀ d, H1 d = none → Q (.ref C) (some d) (upd H1 d (.xd [(fn, v)]))
theorem pmk_e {a : Expr} {ta : TA} {p pos : Pos} {k : Nat} (T : PySem.ExS.ETxt X.prog X.K X.mg cn fn C fI) (N0 : PySem.ExS.FnOk fn) (hr : Room k X.A) (ha : PA X [a] ta) (hg : Gl X cn) (hdb : (cn == ("__debug__" : Str)) = false)
    (he : starEach (a :: []) X.env = (false, eval a X.env) :: starEach [] X.env := by rfl) (hpl : (backTo pos (starEach [] X.env)).any (·.1) = false := by rfl) :
    PMk X (.Call (.Name cn p) [a] [] pos) (tMkE C fn ta) := by
  intro pins s σ H Q I h
  refine wpAny_Call_Name_kw (ld_glob I hg T.gC ?_ hdb)
  refine PySem.W.callWith_K (h₀ := X.base) I.ok.mod.kin T.kC (thn (ha.run pos pins s σ H _ I h) fun us s1 hh => ?_) he hpl
  obtain ⟨vs, H1, I1, r1, v, ev, q1⟩ := hh
  subst ev
  refine ⟨I1.kIn, ?_⟩
  cases r1 with
  | cons rv rn =>
    rename_i v' us'
    cases rn
    show wpAny _ _ (call (.ref C) [v']) _ _ _
    have hlim := I1.nolimit
    obtain ⟨mb, hb, hbb⟩ := I1.mod.blt
    have hgl := I1.mod.glob
    have kb := I1.bk
    obtain ⟨hp, g, dr, tk, os⟩ := s1
    refine wpAny_call (PySem.ExS.e_made T N0 I1.kIn (hgl.keeps kb) (hb.keeps kb) hbb hlim (by have := hr.dp; omega) fun h' tk' e d M => ?_)
    show MkP X pins σ Q (.ref e) ⟨h', g, dr, tk', os⟩
    obtain ⟨oe, fv, hoe, hc, hd, hdat, h1⟩ := M.obj
    have hns := M.ns
    obtain ⟨G', g1, g2⟩ := restrict h' fun b => decide (b ≠ e)
    have gk : ∀ b, b ≠ e → G'.get? b = h'.get? b := fun b hb => g1 b (decide_eq_true hb)
    have ge : G'.get? e = none := g2 e (by simp)
    have old : ∀ b o, hp.get? b = some o → G'.get? b = some o := fun b o q => (gk b (Nat.ne_of_lt (Nat.lt_of_lt_of_le (Heap.lt_size q) M.new))).trans (M.keep b o q)
    have ob : ObjOk X.prog X.w (upd H1 d (.xd [(fn, v)])) G' d (.xd [(fn, v)]) :=
      ⟨_, hns.at (fun o q => (gk d M.dne).trans q), fun f => relO_one rv f⟩
    have J : Inv X pins σ (upd H1 d (.xd [(fn, v)])) ⟨G', g, dr, tk', os⟩ := I1.laid (t' := tk') old M.dbig ob
    refine ⟨e, oe, fv, ⟨G', g, dr, tk', os⟩, _, .ref C, some d, rfl, J, fun b o q => ?_, ge, hoe, ⟨hc, hd⟩, hdat, h1, ?_, rfl, I1.bare, raises_own T.exC T.tyC, q1 d (I1.hok.fresh M.dbig)⟩
    · by_cases hb : b = e
      · have q' : G'.get? b = some o := q
        rw [hb, ge] at q'; cases q'
      · exact (gk b hb).symm.trans q
    · rw [upd_ne (Ne.symm M.dne)]
      exact I1.hok.fresh M.new
/-- raise E(e) -/
def tRaiseE (C : Addr) (fn : Str) (W : WX) (ta : TA) : TS := fun _ σ H => tMkE C fn ta σ H fun cls d H' => W cls d σ H'
theorem ps_raiseE {a : Expr} {ta : TA} {W : WX} {p pos pos2 : Pos} {k : Nat} (hc : X.calm = true) (T : PySem.ExS.ETxt X.prog X.K X.mg cn fn C fI) (N0 : PySem.ExS.FnOk fn) (hr : Room k X.A) (tk : Takes X W) (ha : PA X [a] ta) (hg : Gl X cn) (hdb : (cn == ("__debug__" : Str)) = false)
    (he : starEach (a :: []) X.env = (false, eval a X.env) :: starEach [] X.env := by rfl) (hpl : (backTo pos (starEach [] X.env)).any (·.1) = false := by rfl) :
    PS X (.Raise (some (.Call (.Name cn p) [a] [] pos)) none pos2) (tRaiseE C fn W ta) := ps_raise hc tk (pmk_e T N0 hr ha hg hdb he hpl)
/-- isinstance(e, c) and isinstance(e, (c1, c2, ..)), e the exception that the suite holds (at a; its class cls, its dict d) -/
def rIsX (K : PySem.W.Frag) (a : Addr) (cls : Value) (d : Option Addr) : List V → Hp → VK → Prop := fun xs H Q => ∃ (D dd : Addr) (fs : List (Str × V)), cls = .ref D ∧ d = some dd ∧ H dd = some (.xd fs) ∧ ExcC K D ∧
  ((∃ (c : V) (u : Value) (b : Bool), xs = [.ref a, c] ∧ ClsV c u ∧ PySem.W.kitOne K (.ref D) u = some b ∧ Q (.bl b) H) ∨
    ∃ (tp : Addr) (cs : List V) (us : List Value) (b : Bool), xs = [.ref a, .ref tp] ∧ H tp = some (.tup cs) ∧ Paired ClsV cs us ∧ PySem.W.kitAny K (.ref D) us = some b ∧ Q (.bl b) H)
theorem call_isX {a : Addr} {cls : Value} {d : Option Addr} {oe : Obj} {pn : List (Addr × Obj)} (hz : Zc cls d oe) (hf : ∃ vs, oe.data = .fields vs) : CallR (X.suite a ((a, oe) :: pn)) (.builtin "isinstance") (rIsX X.K a cls d) := by
  intro pins s σ H xs us Q I r h
  obtain ⟨D, dd, fs, rfl, rfl, hdd, C, h⟩ := h
  obtain ⟨ha, _⟩ := I.pin (a, oe) (List.mem_append_left _ List.mem_cons_self)
  obtain ⟨vs, hd⟩ := hf
  obtain ⟨mA, hns, _⟩ := (show ObjOk X.prog X.w H s.heap dd (.xd fs) from I.hok dd _ hdd)
  obtain ⟨od, ho, _⟩ := lookIn_ns hns
  have J : PySem.W.InstAt s.heap a oe D (some od) := ⟨ha, hz.1, by unfold PySem.W.notCls; rw [hd] <;> rfl, by rw [hz.2]; exact ho⟩
  have hcl : (PySem.W.clsIn X.K D).isSome = true := by
    have z := C.hd
    unfold PySem.W.hasDictIn at z
    obtain ⟨cd, hcd, _⟩ := PySem.W.any_some z
    rw [hcd]
    rfl
  have Z := PySem.W.kitx_exc (x := a) (ox := oe) (od := some od) hcl C.hg C.hk C.hs C.ha C.hn C.ht C.hm
  rcases h with ⟨c, u, b, rfl, hc, e, q⟩ | ⟨tp, cs, ws, b, rfl, hT, k, e, q⟩
  · obtain ⟨u1, u2, rfl, r1, r2⟩ := vals2 r
    have e1 : u1 = .ref a := r1
    subst e1
    have e2 := hc.eq r2
    subst e2
    exact PySem.W.kia_one Z I.kIn J e (fun z => nomatch z) fun tk => ⟨.bl b, H, I.tok tk, rfl, q⟩
  · obtain ⟨u1, u2, rfl, r1, r2⟩ := vals2 r
    have e1 : u1 = .ref a := r1
    subst e1
    cases (show u2 = Value.ref tp from r2)
    obtain ⟨_, its, rv, o, h1, h2, n, h3⟩ := (show ObjOk X.prog X.w H s.heap tp (.tup cs) from I.hok tp _ hT)
    have e3 := ClsV.all k rv
    subst e3
    obtain ⟨oc, od', dt, sl⟩ := o
    simp only at h2 h3
    subst h2 h3
    exact PySem.W.kia_tup Z I.kIn J h1 e (fun z => nomatch z) fun tk => ⟨.bl b, H, I.tok tk, rfl, q⟩
end
/-- a constant of the module -/
theorem pe_gs {X : Cx} {x : Str} {v : V} {pos : Pos} (hg : Gl X x) (hm : ∃ u, X.mg x = some u ∧ RelV v u) (hd : (x == ("__debug__" : Str)) = false := by decide) : PE X (.Name x pos) (tC v) := by
  obtain ⟨u, hm, r⟩ := hm
  exact pe_glob hg hm r hd
section
variable {X : Cx} {k : Nat} {x : Str} {ps : List Str} {sp : Sp} {p pos : Pos} {e : Expr} {es : List Expr} {t : TA}
/-- a def that may raise, called where what it raises is let out | caught -/
theorem pe_fnX {E : XK} (c : Cal X.prog X.w X.K X.mg X.base (L2.CX X.prog X.w) k x ps sp) (hr : Room k X.A) (hx : Passes (L2.CX X.prog X.w) X E) (hg : Gl X x) (ha : PA X (e :: es) t) (hdb : (x == ("__debug__" : Str)) = false := by decide)
    (he : starEach (e :: es) X.env = (false, eval e X.env) :: starEach es X.env := by rfl) (hpl : (backTo pos (starEach es X.env)).any (·.1) = false := by rfl) : PE X (.Call (.Name x p) (e :: es) [] pos) (tCall sp [] E t) := by
  obtain ⟨f, fd, F, m, kp, b⟩ := c
  exact pe_call F hr hg m kp b .nil hx ha hdb he hpl
theorem pe_fnS {W : WX} (c : Cal X.prog X.w X.K X.mg X.base (L2.CX X.prog X.w) k x ps sp) (hr : Room k X.A) (tk : Takes X W) (hg : Gl X x) (ha : PA X (e :: es) t) (hdb : (x == ("__debug__" : Str)) = false := by decide)
    (he : starEach (e :: es) X.env = (false, eval e X.env) :: starEach es X.env := by rfl) (hpl : (backTo pos (starEach es X.env)).any (·.1) = false := by rfl) : PE X (.Call (.Name x p) (e :: es) [] pos) (tCallS sp (WE W) t) := by
  obtain ⟨f, fd, F, m, kp, b⟩ := c
  exact pe_callS F hr hg m kp b (fun σ => passAt tk σ) ha hdb he hpl
end
end Ov

set_option Elab.async false
set_option linter.all false
set_option maxRecDepth 100000
/-! {**d, k: v} and {**d, **e}, at the library's level -/
namespace PySem
namespace Dst
open Sem (wp)
section
variable {prog : Program} {w : World} {K : Type} [DecidableEq K] {knd : KeyKind prog w K} {A : Around} {E : Value → Shared → Prop} {s : Shared}
theorem dictPut_pairs {d : Addr} {kvs : List (K × Value)} {k : K} {key v : Value} {Q : Unit → Shared → Prop} (hkey : knd.is k key = true) (hm : s.heap.DictOf knd d kvs)
    (hQ : ∀ h', h'.DictOf knd d (stored kvs k v) → Heap.SameBut d s.heap h' → Q () { s with heap := h' })
    (hsz : kvs.length ≤ sizeLine) : wpAny (model prog w) A (dictPut d (knd.hash k) key v) Q E s := by
  obtain ⟨o, es, ep, ho, hc, hd, hk, hp, hn⟩ := hm
  have hes : es.size ≤ sizeLine := by
    have e1 := hp.length
    have e2 : es.toList.length = es.size := by simp
    omega
  unfold dictPut
  refine wpAny_bind (wpAny_dictFind_of hkey ho hd hk ?_)
  have hidx : (es.findIdx? fun e => knd.is k e.key) = kvs.findIdx? fun kv => decide (kv.1 = k) := by
    rw [← hp.findIdx k]; obtain ⟨l⟩ := es; simp
  cases hi : es.findIdx? fun e => knd.is k e.key with
  | some i =>
    refine wpAny_updateDict ho hd (hQ _ ⟨_, _, ep, Heap.get?_update_self _ ho (Obj.isFreed_of_dict (Obj.data_mapDict hd _)), hc.mapDict _, Obj.data_mapDict hd _, hk.modify _ _, ?_, ?_⟩ (Heap.SameBut.update ..))
    · rw [stored, if_pos (any_of_findIdx_some (hidx ▸ hi))]
      have hl : (es.toList.findIdx? fun e => knd.is k e.key) = some i := by rw [← hi]; obtain ⟨l⟩ := es; simp
      have := hp.modify hn hl v
      obtain ⟨l⟩ := es
      simpa using this
    · rw [stored, if_pos (any_of_findIdx_some (hidx ▸ hi)), keys_map_store]; exact hn
  | none =>
    have hnot : k ∉ kvs.map (·.1) := not_mem_of_findIdx_none (hidx ▸ hi)
    have hany : ¬ (kvs.any fun kv => decide (kv.1 = k)) = true := by
      rw [List.any_eq_true]; rintro ⟨kv, hkv, he⟩
      exact hnot (List.mem_map.mpr ⟨kv, hkv, of_decide_eq_true he⟩)
    refine wpAny_updateDictKeys (hz := hes) ho hd (hQ _ ⟨_, _, ep + 1, Heap.get?_update_self _ ho (Obj.isFreed_of_dict (Obj.data_mapDictKeys hd _)), hc.mapDictKeys _, Obj.data_mapDictKeys hd _, hk.push hkey _, ?_, ?_⟩ (Heap.SameBut.update ..))
    · rw [stored, if_neg hany]
      have := hp.append hkey (knd.hash k) v
      obtain ⟨l⟩ := es
      simpa using this
    · rw [stored, if_neg hany, List.map_append, List.nodup_append]
      refine ⟨hn, by simp, ?_⟩
      intro a ha b hb
      simp only [List.map_cons, List.map_nil, List.mem_singleton] at hb
      subst hb
      exact fun e => hnot (e ▸ ha)

theorem merge_dict {d o : Addr} {kvs more : List (K × Value)} {Q : Unit → Shared → Prop} (hdo : d ≠ o) (hoS : (o == sysModules) = false)
    (hnr : ∀ k v, knd.is k v = true → ∀ a, v ≠ .ref a)
    (hd : s.heap.DictOf knd d kvs) (ho : s.heap.DictOf knd o more)
    (hQ : ∀ h', h'.DictOf knd d (merged kvs more) → Heap.SameBut d s.heap h' → Q () { s with heap := h' })
    (hsz : kvs.length + more.length ≤ sizeLine) : wpAny (model prog w) A (mergeMapping d (.ref o) false) Q E s := by
  obtain ⟨od, esd, epd, hod, hcd, hdd, hkd, hpd, hnd⟩ := id hd
  obtain ⟨oo, eso, epo, hoo, hco, hdo', hko, hpo, hno⟩ := id ho
  have hlen : more.length = eso.size := by rw [← hpo.length]; simp
  unfold mergeMapping
  refine wpAny_bind (wpAny_isInstance ho.typeIs isSubtype_dict_dict ?_)
  simp only [if_true]
  refine wpAny_bind (wpAny_specialOf ho.typeIs F.slot_dict_iter.lookup ?_)
  simp only [beq_self_eq_true]
  refine wpAny_bind (wpAny_pure ?_)
  simp only
  rw [if_neg (by rw [hoS]; exact Bool.false_ne_true)]
  refine wpAny_bind (wpAny_dictEntries hod hdd ?_)
  have loop : wpAny (model prog w) A (do
      let l ← dictEntries o
      let epoch ← dictEpoch o
      forIn (List.range l.size) PUnit.unit fun i (_ : PUnit) => (do
          let l' ← dictEntries o
          match l'[i]? with
            | some e => do
              holding [e.key, e.val]
                  (if false = true then do
                    let q ← dictFind d e.key e.hash
                    if q.isSome = true then do
                        rule "dict.merge.duplicate-key"
                        let x ← newExc (Value.type "KeyError") [e.key]
                        raiseNew x
                        dictPut d e.hash e.key e.val
                      else dictPut d e.hash e.key e.val
                  else dictPut d e.hash e.key e.val)
              let ep' ← dictEpoch o
              if (ep' != epoch) = true then do
                  (unsupported "dict.changed-during-merge" : Sem PUnit)
                  pure (ForInStep.yield PUnit.unit)
                else pure (ForInStep.yield PUnit.unit)
            | _ => do
              (unsupported "dict.changed-during-merge" : Sem PUnit)
              pure (ForInStep.yield PUnit.unit) : Sem (ForInStep PUnit))
      pure ()) Q E s := by
    refine wpAny_bind (wpAny_dictEntries hoo hdo' ?_)
    refine wpAny_bind (wpAny_dictEpoch hoo hdo' ?_)
    refine wpAny_bind ?_
    rw [List.range_eq_range']
    refine wpAny_forIn_list _
      (fun rest _ s' => ∃ h' i, s' = { s with heap := h' } ∧ rest = List.range' i (eso.size - i) ∧ i ≤ eso.size ∧ h'.DictOf knd d (merged kvs (more.take i)) ∧ h'.get? o = some oo ∧ Heap.SameBut d s.heap h')
      _ ?_ ?_ _ _ ⟨s.heap, 0, rfl, by simp, Nat.zero_le _, by simpa [merged] using hd, hoo, Heap.SameBut.refl _ _⟩
    · rintro x rest b s' ⟨h', i, rfl, hr, hi, hd', hoo', hs'⟩
      have hlt : i < eso.size := by
        rcases Nat.lt_or_ge i eso.size with h | h
        · exact h
        · rw [Nat.sub_eq_zero_of_le h] at hr; simp at hr
      obtain ⟨rfl, hrest⟩ : x = i ∧ rest = List.range' (i + 1) (eso.size - (i + 1)) := by
        have e : eso.size - i = (eso.size - (i + 1)) + 1 := by omega
        rw [e, List.range'_succ] at hr
        injection hr with h1 h2
        exact ⟨h1, h2⟩
      refine wpAny_bind (wpAny_dictEntries hoo' hdo' ?_)
      rw [Array.getElem?_eq_getElem hlt]
      obtain ⟨kv, hkv⟩ : ∃ kv, more[x]? = some kv := ⟨more[x]'(by rw [hlen]; exact hlt), List.getElem?_eq_getElem _⟩
      obtain ⟨k, v⟩ := kv
      obtain ⟨hkey, hval⟩ := hpo.get? (e := eso[x]) (by simp [hlt]) hkv
      obtain ⟨k', hkey', hhash⟩ := hko eso[x] (Array.getElem_mem hlt)
      obtain rfl : k' = k := knd.inj _ _ _ hkey' hkey
      show wpAny _ _ (holding [eso[x].key, eso[x].val] (if false = true then _ else dictPut d eso[x].hash eso[x].key eso[x].val) >>= _) _ _ _
      rw [if_neg Bool.false_ne_true, hhash, hval]
      have hmx : (merged kvs (more.take x)).length ≤ sizeLine := by
        have e1 := merged_length_le kvs (more.take x)
        have e2 : (more.take x).length ≤ more.length := by rw [List.length_take]; omega
        omega
      refine wpAny_bind (wpAny_holding (dictPut_pairs (hsz := hmx) hkey hd' fun h'' hd'' hs'' => ?_))
      have hoo'' : h''.get? o = some oo := (hs''.2 o (Ne.symm hdo)).trans hoo'
      refine wpAny_bind (wpAny_dictEpoch hoo'' hdo' ?_)
      rw [if_neg (by simp)]
      exact wpAny_pure ⟨h'', x + 1, rfl, hrest, hlt, by rw [merged_take_succ kvs more x (k', v) hkv]; exact hd'', hoo'', hs'.trans hs''⟩
    · rintro b s' ⟨h', i, rfl, hr, hi, hd', hoo', hs'⟩
      have hin : i = eso.size := by
        rcases Nat.lt_or_ge i eso.size with h | h
        · have e : eso.size - i = (eso.size - (i + 1)) + 1 := by omega
          rw [e, List.range'_succ] at hr; exact nomatch hr
        · exact Nat.le_antisymm hi h
      refine wpAny_pure (hQ h' ?_ hs')
      rw [hin, ← hlen, List.take_length] at hd'; exact hd'
  split
  · refine wpAny_bind (wpAny_dictEntries hoo hdo' ?_)
    refine wpAny_bind ?_
    rw [← Array.forIn_toList]
    refine wpAny_forIn_list _ (fun rest _ s' => s' = s ∧ ∀ e ∈ rest, e ∈ eso.toList) _ ?_ ?_ _ _ ⟨rfl, fun _ h => h⟩
    · rintro e rest b s' ⟨rfl, hm⟩
      obtain ⟨k, hkey, _⟩ := hko e (Array.mem_toList_iff.mp (hm e List.mem_cons_self))
      have hr := hnr k _ hkey
      split
      · rename_i a ha
        exact absurd ha (hr a)
      · exact wpAny_pure ⟨rfl, fun x hx => hm x (List.mem_cons_of_mem _ hx)⟩
    · rintro b s' ⟨rfl, _⟩
      exact loop
  · exact loop

theorem disp_kv {a k v : Sem Value} {Q : Value → Shared → Prop}
    (h : wpAny (model prog w) A a (fun m s1 => wpAny (model prog w) A (mergeMapping s.heap.objs.size m false) (fun _ s2 => wpAny (model prog w) A (subDict [(k, v)]) (fun sub s3 =>
      wpAny (model prog w) A (mergeMapping s.heap.objs.size (.ref sub) false) (fun _ s4 => Q (.ref s.heap.objs.size) s4) (fun _ _ => False) s3) E s2) (fun _ _ => False) s1) E
      { s with heap := s.heap.push { cls := .type "dict", data := .dict #[] } }) :
    wpAny (model prog w) A (dictDisplay [(none, a), (some k, v)]) Q E s := by
  unfold dictDisplay
  dsimp only
  rw [List.forIn_cons]
  refine wpAny_bind (wpAny_bind ?_)
  dsimp only
  rw [if_pos (by rfl)]
  refine wpAny_bind (wpAny_pure ?_)
  dsimp only
  refine wpAny_bind (wpAny_alloc ?_)
  refine wpAny_bind (wpAny_holding (wpAny_mono h (fun m s1 h1 => ?_) fun _ _ e => e))
  refine wpAny_bind (wpAny_onRaise (wpAny_tryCatch (wpAny_onRaise (wpAny_holding (wpAny_mono h1 (fun _ s2 h2 => ?_) fun _ _ e => e.elim)))))
  refine wpAny_pure ?_
  dsimp only
  rw [List.forIn_cons]
  refine wpAny_bind ?_
  dsimp only
  rw [if_neg (fun z => nomatch z)]
  refine wpAny_pure ?_
  dsimp only
  rw [List.forIn_nil]
  refine wpAny_pure ?_
  dsimp only
  refine wpAny_bind ?_
  rw [if_neg (fun z => nomatch z)]
  refine wpAny_bind (wpAny_holding (wpAny_mono h2 (fun sub s3 h3 => ?_) fun _ _ e => e))
  refine wpAny_bind (wpAny_onRaise (wpAny_holding (wpAny_mono h3 (fun _ s4 h4 => ?_) fun _ _ e => e.elim)))
  refine wpAny_pure ?_
  dsimp only
  exact wpAny_pure h4

theorem disp_dd {a b : Sem Value} {Q : Value → Shared → Prop}
    (h : wpAny (model prog w) A a (fun m s1 => wpAny (model prog w) A (mergeMapping s.heap.objs.size m false) (fun _ s2 => wpAny (model prog w) A b (fun m2 s3 =>
      wpAny (model prog w) A (mergeMapping s.heap.objs.size m2 false) (fun _ s4 => Q (.ref s.heap.objs.size) s4) (fun _ _ => False) s3) E s2) (fun _ _ => False) s1) E
      { s with heap := s.heap.push { cls := .type "dict", data := .dict #[] } }) :
    wpAny (model prog w) A (dictDisplay [(none, a), (none, b)]) Q E s := by
  unfold dictDisplay
  dsimp only
  rw [List.forIn_cons]
  refine wpAny_bind (wpAny_bind ?_)
  dsimp only
  rw [if_pos (by rfl)]
  refine wpAny_bind (wpAny_pure ?_)
  dsimp only
  refine wpAny_bind (wpAny_alloc ?_)
  refine wpAny_bind (wpAny_holding (wpAny_mono h (fun m s1 h1 => ?_) fun _ _ e => e))
  refine wpAny_bind (wpAny_onRaise (wpAny_tryCatch (wpAny_onRaise (wpAny_holding (wpAny_mono h1 (fun _ s2 h2 => ?_) fun _ _ e => e.elim)))))
  refine wpAny_pure ?_
  dsimp only
  rw [List.forIn_cons]
  refine wpAny_bind ?_
  dsimp only
  rw [if_pos (by rfl)]
  refine wpAny_bind (wpAny_pure ?_)
  dsimp only
  refine wpAny_bind (wpAny_pure ?_)
  refine wpAny_bind (wpAny_holding (wpAny_mono h2 (fun m2 s3 h3 => ?_) fun _ _ e => e))
  refine wpAny_bind (wpAny_onRaise (wpAny_tryCatch (wpAny_onRaise (wpAny_holding (wpAny_mono h3 (fun _ s4 h4 => ?_) fun _ _ e => e.elim)))))
  refine wpAny_pure ?_
  dsimp only
  rw [List.forIn_nil]
  refine wpAny_pure ?_
  dsimp only
  refine wpAny_bind ?_
  rw [if_pos (by rfl)]
  refine wpAny_pure ?_
  dsimp only
  exact wpAny_pure h4
end
end Dst
end PySem
namespace Ov
open PySem PySem.Spec PyProof.Rows L2
theorem kv_noref {P : Program} {w : World} : ∀ k v, (mixKind P w).is k v = true → ∀ a, v ≠ .ref a := fun k v h a e => by
  rw [e] at h
  rcases keyIs_shape h with ⟨i, t, _, q⟩ | ⟨x, t, _, q⟩ <;> cases q
theorem dictOf_nodup {P : Program} {w : World} {h : Heap} {d : Addr} {kvs : List (Key × Value)} (x : h.DictOf (mixKind P w) d kvs) : (kvs.map (·.1)).Nodup := let ⟨_, _, _, _, _, _, _, _, n⟩ := x; n
section
variable {X : Cx} {pos : Pos}
/-- a value of a display -/
theorem pe_val {e : Expr} {te : TE} (h : PE X e te) {pins : List (Addr × Obj)} {s : Shared} {σ : L2.St} {H : Hp} {Q : VK} (I : Inv X pins σ H s) (q : te σ H Q) :
    wpAny (model X.prog X.w) X.A (do let x ← eval e X.env; standAt pos; pure x) (EP X pins σ Q) X.xe s :=
  wpAny_bind (thn (h.run pins s σ H _ I q) fun u s1 z => wpAny_bind (wpAny_standAt (wpAny_pure z)))
/-- the source of ** -/
def DSrc (H : Hp) (x : V) (p : Addr) (kvs : List (Key × V)) : Prop := ∃ o, x = .ref o ∧ Rd H o (.dK kvs) ∧ o ≠ p
/-- {**d, k: v} -/
def tStarKV (td tk tv : TE) : TE := fun σ H Q => ∀ p, H p = none → td σ (upd H p (.dK [])) fun x H1 => ∃ kvs, DSrc H1 x p kvs ∧ H1 p = some (.dK []) ∧ kvs.length < sizeLine ∧
  ∀ q, upd H1 p (.dK kvs) q = none → tk σ (upd (upd H1 p (.dK kvs)) q (.dK [])) fun y H2 => tv σ H2 fun z H3 => ∃ k, y = kV k ∧ H3 p = some (.dK kvs) ∧ H3 q = some (.dK []) ∧ p ≠ q ∧
    Q (.ref p) (upd (upd H3 q (.dK [(k, z)])) p (.dK (putK kvs k z)))
theorem star_merge {pins : List (Addr × Obj)} {σ : L2.St} {H : Hp} {s : Shared} {x : V} {u : Value} {p : Addr} {kvs acc : List (Key × V)} {Q : Unit → Shared → Prop} {E : Value → Shared → Prop} (I : Inv X pins σ H s) (d : DSrc H x p kvs) (r : RelV x u) (hp : H p = some (.dK acc)) (hl : acc.length + kvs.length ≤ sizeLine)
    (h : ∀ s', Inv X pins σ (upd H p (.dK (mergeK acc kvs))) s' → Q () s') : wpAny (model X.prog X.w) X.A (mergeMapping p u false) Q E s := by
  obtain ⟨o, rfl, ho, hne⟩ := d
  obtain rfl : u = Value.ref o := r
  obtain ⟨z, hd, vs, rel, dd⟩ := dk_rd I.hok ho
  obtain ⟨zp, hdp, vp, relp, dp⟩ := dk_of I.hok hp
  refine PySem.Dst.merge_dict (Ne.symm hne) hd kv_noref dp dd (fun h' dd' hs => h { s with heap := h' } ?_) (by rw [← rel.length, ← relp.length]; exact hl)
  have he : ∃ q, h'.get? p = some q := let ⟨q, _, _, hq, _⟩ := dd'; ⟨q, hq⟩
  have hm : (mergeK acc kvs).length ≤ sizeLine := Nat.le_trans (length_mergeK kvs acc) hl
  exact d_write (t' := s.toks) I (by rw [hp]; exact True.intro) hs he (dk_new hm hdp (rel.merge relp) dd')
theorem mergeK_append : ∀ (more acc : List (Key × V)), ((acc ++ more).map (·.1)).Nodup → mergeK acc more = acc ++ more
  | [], acc, _ => (List.append_nil acc).symm
  | kv :: rest, acc, hn => by
    have hfresh : valV acc kv.1 = none := by
      cases q : valV acc kv.1 with
      | none => rfl
      | some x =>
        exfalso
        have a := valV_any kv.1 acc
        rw [q] at a
        obtain ⟨y, hy, he⟩ := List.any_eq_true.mp a
        rw [List.map_append, List.map_cons, List.nodup_append] at hn
        exact hn.2.2 y.1 (List.mem_map.mpr ⟨y, hy, rfl⟩) kv.1 List.mem_cons_self (of_decide_eq_true he)
    show mergeK (putK acc kv.1 kv.2) rest = _
    rw [putK_new _ hfresh, mergeK_append rest (acc ++ [(kv.1, kv.2)]) (by simpa using hn)]
    simp
theorem mergeK_nil {kvs : List (Key × V)} (hn : (kvs.map (·.1)).Nodup) : mergeK [] kvs = kvs := by
  simpa using mergeK_append kvs [] (by simpa using hn)
theorem rd_nodup {pins : List (Addr × Obj)} {σ : L2.St} {H : Hp} {s : Shared} {o : Addr} {kvs : List (Key × V)} (I : Inv X pins σ H s) (h : Rd H o (.dK kvs)) : (kvs.map (·.1)).Nodup := by
  obtain ⟨z, hd, vs, rel, dd⟩ := dk_rd I.hok h
  rw [rel.keys]
  exact dictOf_nodup dd
theorem pe_starKV {a k v : Expr} {td tk tv : TE} (ha : PE X a td) (hk : PE X k tk) (hv : PE X v tv) : PE X (.Dict [none, some k] [a, v] pos) (tStarKV td tk tv) := by
  refine ⟨fun pins s σ H Q I h => ?_⟩
  rw [arm_eval_Dict]
  refine wpAny_bind (wpAny_standAt ?_)
  show wpAny _ _ (dictDisplay [(none, do let x ← eval a X.env; standAt pos; pure x), (some (eval k X.env), do let x ← eval v X.env; standAt pos; pure x)]) _ _ _
  have hn := I.hok.fresh (Nat.le_refl s.heap.objs.size)
  have I1 := I.laid (a := s.heap.objs.size) (o := .dK []) (h' := s.heap.push { cls := .type "dict", data := .dict #[] }) (t' := s.toks) (fun _ _ q => Heap.get?_push_of_some _ q) (Nat.le_refl _) (dk_empty s.heap I.big)
  refine PySem.Dst.disp_kv (thn (pe_val ha I1 (h _ hn)) fun m s1 ⟨x, H1, I1', rx, kvs, hd, hp, hl, q1⟩ => ?_)
  refine star_merge I1' hd rx hp (by rw [List.length_nil]; omega) fun s2 I2 => ?_
  obtain ⟨o, rfl, ho, hne⟩ := id hd
  rw [mergeK_nil (rd_nodup I1' ho)] at I2
  have hn2 := I2.hok.fresh (Nat.le_refl s2.heap.objs.size)
  have I3 := I2.laid (a := s2.heap.objs.size) (o := .dK []) (h' := s2.heap.push { cls := .type "dict", data := .dict #[] }) (t' := s2.toks) (fun _ _ q => Heap.get?_push_of_some _ q) (Nat.le_refl _) (dk_empty s2.heap I2.big)
  refine PySem.wpAny_subDict (knd := mixKind X.prog X.w) (show 1 ≤ 15 by decide) ?_
  refine PySem.evalPairs_cons (thn (hk.run pins _ σ _ _ I3 (q1 _ hn2)) fun ku s3 ⟨y, H3, I3', ry, q3⟩ => thn (pe_val hv I3' q3) fun vu s4 ⟨z, H4, I4, rz, key, ek, hp4, hq4, hpq, q4⟩ => PySem.evalPairs_nil ?_)
  subst ek
  obtain ⟨zq, hdq, vq, relq, dq⟩ := dk_of I4.hok hq4
  cases relq
  refine ⟨[(key, vu)], ⟨kV_is ry, rfl, True.intro⟩, dq, fun h' dd' hs => ?_⟩
  have he : ∃ q, h'.get? s2.heap.objs.size = some q := let ⟨q, _, _, hq, _⟩ := dd'; ⟨q, hq⟩
  have I5 : Inv X pins σ (upd H4 s2.heap.objs.size (.dK [(key, z)])) { s4 with heap := h', toks := s4.toks + 1 } :=
    d_write I4 (by rw [hq4]; exact True.intro) hs he (dk_new (by rw [sizeLine_eq]; show 1 ≤ 16777216; decide) hdq (.cons ⟨rfl, rz⟩ .nil) dd')
  refine star_merge (kvs := [(key, z)]) (acc := kvs) I5 ⟨_, rfl, .inl upd_same, Ne.symm hpq⟩ rfl (by rw [upd_ne hpq]; exact hp4) (by show kvs.length + 1 ≤ _; omega) fun s6 I6 => ?_
  exact ⟨.ref s.heap.objs.size, _, I6, rfl, q4⟩
/-- {**d, **e} -/
def tStar2 (td te : TE) : TE := fun σ H Q => ∀ p, H p = none → td σ (upd H p (.dK [])) fun x H1 => ∃ kvs, DSrc H1 x p kvs ∧ H1 p = some (.dK []) ∧ kvs.length ≤ sizeLine ∧
  te σ (upd H1 p (.dK kvs)) fun y H2 => ∃ more, DSrc H2 y p more ∧ H2 p = some (.dK kvs) ∧ kvs.length + more.length ≤ sizeLine ∧ Q (.ref p) (upd H2 p (.dK (mergeK kvs more)))
theorem pe_star2 {a b : Expr} {td te : TE} (ha : PE X a td) (hb : PE X b te) : PE X (.Dict [none, none] [a, b] pos) (tStar2 td te) := by
  refine ⟨fun pins s σ H Q I h => ?_⟩
  rw [arm_eval_Dict]
  refine wpAny_bind (wpAny_standAt ?_)
  show wpAny _ _ (dictDisplay [(none, do let x ← eval a X.env; standAt pos; pure x), (none, do let x ← eval b X.env; standAt pos; pure x)]) _ _ _
  have hn := I.hok.fresh (Nat.le_refl s.heap.objs.size)
  have I1 := I.laid (a := s.heap.objs.size) (o := .dK []) (h' := s.heap.push { cls := .type "dict", data := .dict #[] }) (t' := s.toks) (fun _ _ q => Heap.get?_push_of_some _ q) (Nat.le_refl _) (dk_empty s.heap I.big)
  refine PySem.Dst.disp_dd (thn (pe_val ha I1 (h _ hn)) fun m s1 ⟨x, H1, I1', rx, kvs, hd, hp, hl, q1⟩ => ?_)
  refine star_merge I1' hd rx hp (by rw [List.length_nil]; omega) fun s2 I2 => ?_
  obtain ⟨o, rfl, ho, hne⟩ := id hd
  rw [mergeK_nil (rd_nodup I1' ho)] at I2
  refine thn (pe_val hb I2 q1) fun m2 s3 ⟨y, H2, I2', ry, more, hd2, hp2, hl2, q2⟩ => ?_
  refine star_merge I2' hd2 ry hp2 hl2 fun s4 I4 => ?_
  exact ⟨.ref s.heap.objs.size, _, I4, rfl, q2⟩
end
end Ov

set_option Elab.async false
set_option linter.all false
set_option maxRecDepth 100000
namespace Ov
open PySem PySem.Spec PyProof.Rows L2
/-! ### the program's own classes: their methods, called by name and by operators -/
/-- the method m of the class at C keeps sp -/
def MCal (P : Program) (w : World) (K : PySem.W.Frag) (mg : Str → Option Value) (base : Heap) (CX : CXT) (k : Nat) (C : Addr) (m : Str) (ps : List Str) (sp : Sp) : Prop :=
  ∃ (f : Addr) (fd : FuncData), FnOk P w K mg base CX k f fd ps sp ∧ Meth K C m f ∧ Binds K fd ps [] ∧ PySem.W.fnIn K f = true
/-- the method m of the class at C stands in the text -/
def MHas (K : PySem.W.Frag) (C : Addr) (m q : Str) (st : Stmt) (ps : List Str) : Prop :=
  ∃ (f : Addr) (fd : FuncData), Fun K m q st f fd ∧ Meth K C m f ∧ PySem.W.fnIn K f = true ∧ ∀ us : List Value, us.length = ps.length → bindArgs fd ⟨us, []⟩ = pure (ps.zip us)
section
variable {P : Program} {w : World} {K : PySem.W.Frag} {mg : Str → Option Value} {base : Heap} {CX : CXT} {C : Addr}
theorem MCal.mono {j k : Nat} {m : Str} {ps : List Str} {sp : Sp} (c : MCal P w K mg base CX j C m ps sp) (h : j ≤ k) : MCal P w K mg base CX k C m ps sp := by
  obtain ⟨f, fd, F, r⟩ := c
  exact ⟨f, fd, F.mono h, r⟩
theorem MHas.ok {m q : Str} {st : Stmt} {N ps : List Str} {k : Nat} {sp : Sp} (h : MHas K C m q st ps) (S : FnScope N ps (defScope st)) (len : ∀ vs H Q E, sp vs H Q E → vs.length = ps.length)
    (hbody : ∀ (f : Addr) (cdv : Value) (A : Around) (outer : List Env) (s : Shared) (H : Hp) (vs : List V) (Q : VK) (E : XK), Room k (A.deeper (envOfC q (defScope st) s.heap.objs.size f cdv)) → sp vs H Q E →
      ∃ t, PSs (cxOf CX0 P w K mg base N q (defScope st) f cdv A outer s H E).nox (defBody st) t ∧ t { nx := fun _ H' => Q .non H', rt := Q } (start N vs) H) : MCal P w K mg base CX0 (k + 1) C m ps sp := by
  obtain ⟨f, fd, F, M, i, b⟩ := h
  exact ⟨f, fd, F.ok S len (fun cdv A outer s H vs Q E hr h => hbody f cdv A outer s H vs Q E hr h), M, .all b, i⟩
theorem MHas.okX {m q : Str} {st : Stmt} {N ps : List Str} {k : Nat} {sp : Sp} (h : MHas K C m q st ps) (S : FnScope N ps (defScope st)) (len : ∀ vs H Q E, sp vs H Q E → vs.length = ps.length)
    (hbody : ∀ (f : Addr) (cdv : Value) (A : Around) (outer : List Env) (s : Shared) (H : Hp) (vs : List V) (Q : VK) (E : XK), Room k (A.deeper (envOfC q (defScope st) s.heap.objs.size f cdv)) → sp vs H Q E →
      ∃ t, PSs (cxOf (L2.CX P w) P w K mg base N q (defScope st) f cdv A outer s H E) (defBody st) t ∧ t { nx := fun _ H' => Q .non H', rt := Q } (start N vs) H) : MCal P w K mg base (L2.CX P w) (k + 1) C m ps sp := by
  obtain ⟨f, fd, F, M, i, b⟩ := h
  exact ⟨f, fd, F.okX S len (fun cdv A outer s H vs Q E hr h => hbody f cdv A outer s H vs Q E hr h), M, .all b, i⟩
end
section
variable {X : Cx} {CX : CXT} {k : Nat} {C : Addr} {m : Str} {ps : List Str} {sp : Sp} {E : XK} {p pos apos : Pos} {o e : Expr} {es : List Expr} {ta : TE} {t : TA}
/-- the callee runs, somewhere below -/
theorem run_at {A : Around} {f : Addr} {fd : FuncData} {pins : List (Addr × Obj)} {σ : L2.St} {H : Hp} {s : Shared} {Q : VK} {us : List Value} {vs : List V} (F : FnOk X.prog X.w X.K X.mg X.base CX k f fd ps sp) (hr : Room k A) (hf : A.frames = X.A.frames) (hb : Binds X.K fd ps []) (hx : Passes CX X E)
    (I : Inv X pins σ H s) (r : Vals vs us) (h : sp vs H Q E) : wpAny (model X.prog X.w) A (call (.ref f) us) (EP X pins σ Q) X.xe s := by
  have hl : us.length = ps.length := by rw [← r.length]; exact F.len _ _ _ _ h
  have e0 : Env0 X.prog X.w X.K X.mg X.base A X.stack s H := by
    have e := I.env0
    exact ⟨by rw [hf]; exact e.frames, e.mod, e.bs, e.bsz, e.funs, e.frf, e.hok, e.bare⟩
  refine wpAny_call (codeAny_mono (F.run A X.stack s H ⟨us, []⟩ us vs Q E hr e0 (by
    have := hb s us I.kIn (by simpa using hl)
    simpa using this) r h) fun r s' hq => ?_)
  cases r with
  | error e => exact hx pins σ H s e s' I hq
  | ok fl =>
    cases fl with
    | ret u => exact I.after hq
    | next => exact False.elim hq
    | brk => exact False.elim hq
    | cont => exact False.elim hq
theorem pe_mth {pl : Sem Bool} (he : PE X o ta) (c : Cls X.K C) (M : MCal X.prog X.w X.K X.mg X.base CX k C m ps sp) (hr : Room k X.A) (hx : Passes CX X E) (ha : PA X (e :: es) t)
    (hst : starEach (e :: es) X.env = (false, eval e X.env) :: starEach es X.env := by rfl) (hpl : (backTo pos (starEach es X.env)).any (·.1) = false := by rfl)
    (ht : eval (.Call (.Attribute o m apos) (e :: es) [] pos) X.env = (do
      let ov ← eval o X.env
      standAt apos.atName
      let (f, first) ← holding [ov] (getMethod ov m pl)
      callWith pos f first (backTo pos (starEach (e :: es) X.env)) (backToKw pos (keywordEach [] X.env))) := by rfl) :
    PE X (.Call (.Attribute o m apos) (e :: es) [] pos) (tMeth C m sp [] E ta t) := by
  obtain ⟨f, fd, F, hm, b, fi⟩ := M
  exact pe_meth he c hm F hr b .nil hx ha hst hpl ht
theorem pe_mth0 {pl : Sem Bool} (he : PE X o ta) (c : Cls X.K C) (M : MCal X.prog X.w X.K X.mg X.base CX k C m ps sp) (hr : Room k X.A) (hx : Passes CX X E)
    (ht : eval (.Call (.Attribute o m apos) [] [] pos) X.env = (do
      let ov ← eval o X.env
      standAt apos.atName
      let (f, first) ← holding [ov] (getMethod ov m pl)
      callWith pos f first (backTo pos (starEach [] X.env)) (backToKw pos (keywordEach [] X.env))) := by rfl) :
    PE X (.Call (.Attribute o m apos) [] [] pos) (tMeth C m sp [] E ta tNil) := by
  obtain ⟨f, fd, F, hm, b, fi⟩ := M
  exact pe_meth0 he c hm F hr b .nil hx ht
/-- C(..) -/
structure MkC (K : PySem.W.Frag) (mg : Str → Option Value) (x : Str) (C : Addr) : Prop where
  makes : PySem.W.makesIn K C = true
  kp : PySem.W.keepIn K (.ref C) = true
  gl : mg x = some (.ref C)
theorem pe_mk0 {x : Str} (M0 : MkC X.K X.mg x C) (M : MCal X.prog X.w X.K X.mg X.base CX k C "__init__" ps sp) (hr : Room (k + 1) X.A) (hx : Passes CX X E) (hg : Gl X x) (hdb : (x == ("__debug__" : Str)) = false := by decide) :
    PE X (.Call (.Name x p) [] [] pos) (tMake C sp [] E tNil) := by
  obtain ⟨f, fd, F, hm, b, fi⟩ := M
  exact pe_make0 ⟨M0.makes, hm.at_, hm.fn, M0.kp⟩ F hr hg M0.gl b .nil hx hdb
theorem pe_mk {x : Str} (M0 : MkC X.K X.mg x C) (M : MCal X.prog X.w X.K X.mg X.base CX k C "__init__" ps sp) (hr : Room (k + 1) X.A) (hx : Passes CX X E) (hg : Gl X x) (ha : PA X (e :: es) t) (hdb : (x == ("__debug__" : Str)) = false := by decide)
    (he : starEach (e :: es) X.env = (false, eval e X.env) :: starEach es X.env := by rfl) (hpl : (backTo pos (starEach es X.env)).any (·.1) = false := by rfl) :
    PE X (.Call (.Name x p) (e :: es) [] pos) (tMake C sp [] E t) := by
  obtain ⟨f, fd, F, hm, b, fi⟩ := M
  exact pe_make ⟨M0.makes, hm.at_, hm.fn, M0.kp⟩ F hr hg M0.gl b .nil hx ha hdb he hpl
/-! by operators -/
/-- o[i] = v -/
def rSetO (C : Addr) (sp : Sp) (E : XK) : TSet := fun o i v H Q => ∃ a dx fs, o = .ref a ∧ H a = some (.ins C dx fs) ∧ sp [.ref a, i, v] H (fun _ H' => Q H') E
theorem set_own (M : MCal X.prog X.w X.K X.mg X.base CX k C "__setitem__" ps sp) (hr : Room k X.A) (hq : PySem.W.noSeq X.K C = true) (hx : Passes CX X E) : PSet X (rSetO C sp E) := by
  intro pins s σ H o i v ov iv u Q I ro ri rv h
  obtain ⟨a, dx, fs, rfl, ha, h⟩ := h
  obtain rfl : ov = Value.ref a := ro
  obtain ⟨f, fd, F, hm, b, fi⟩ := M
  obtain ⟨mA, J, _⟩ := ins_get I.hok ha
  obtain ⟨od, J, _⟩ := J.look
  obtain ⟨mm, hF⟩ := I.fr
  refine PySem.W.ksp_setItem hF I.ok.mod.kin J hq hm.at_ hm.fn ?_
  refine wpAny_mono (run_at (vs := [.ref a, i, v]) F hr rfl b hx I (.cons rfl (.cons ri (.cons rv .nil))) h) (fun r s' z => ?_) fun _ _ x => x
  obtain ⟨_, H', I', _, q⟩ := z
  exact ⟨H', I', q⟩
/-- o[i] -/
def rIxO (C : Addr) (sp : Sp) (E : XK) : R2 := fun o i H Q => ∃ a dx fs, o = .ref a ∧ H a = some (.ins C dx fs) ∧ sp [.ref a, i] H Q E
theorem pe_ixO {a b : Expr} {ta tb : TE} (M : MCal X.prog X.w X.K X.mg X.base CX k C "__getitem__" ps sp) (hr : Room (k + 1) X.A) (hx : Passes CX X E) (ha : PE X a ta) (hb : PE X b tb)
    (hs : ∀ u v, subscripted b true u v = runValue (.builtin "lifetime.subscript" ⟨[u, v], []⟩) := by intro _ _; with_unfolding_all rfl) : PE X (.Subscript a b pos) (tOp (rIxO C sp E) ta tb) := by
  refine ⟨fun pins s σ H Q I h => ?_⟩
  refine Subscript_ (binT ha hb I h fun v u s2 x y H2 I2 rx ry q => ?_)
  obtain ⟨a, dx, fs, rfl, hi, h⟩ := q
  obtain rfl : v = Value.ref a := rx
  obtain ⟨f, fd, F, hm, b, fi⟩ := M
  obtain ⟨mA, J, _⟩ := ins_get I2.hok hi
  obtain ⟨od, J, _⟩ := J.look
  obtain ⟨mm, hF⟩ := I2.fr
  exact PySem.W.sub_K hF I2.ok.mod.kin J hm.at_ fi hm.fn (run_at (A := X.A.in1) (vs := [.ref a, y]) F hr.in1 rfl b hx I2 (.cons rfl (.cons ry .nil)) h) (hs _ _)
/-- x in o, x not in o -/
def rInO (C : Addr) (sp : Sp) (E : XK) (neg : Bool) : R2 := fun x o H Q => ∃ a dx fs, o = .ref a ∧ H a = some (.ins C dx fs) ∧ sp [.ref a, x] H (fun v H' => ∃ b, v = .bl b ∧ Q (.bl (if neg then !b else b)) H') E
theorem op_inO (M : MCal X.prog X.w X.K X.mg X.base CX k C "__contains__" ps sp) (hr : Room k X.A) (hx : Passes CX X E) : OpR X (compareOp .In) (rInO C sp E false) := by
  intro pins s σ H x o xv ov Q I rx ro h
  obtain ⟨a, dx, fs, rfl, ha, h⟩ := h
  obtain rfl : ov = Value.ref a := ro
  obtain ⟨f, fd, F, hm, b, fi⟩ := M
  obtain ⟨mA, J, _⟩ := ins_get I.hok ha
  obtain ⟨od, J, _⟩ := J.look
  obtain ⟨mm, hF⟩ := I.fr
  refine PySem.W.in_K hF I.ok.mod.kin J hm.at_ hm.fn ?_
  refine wpAny_mono (run_at (vs := [.ref a, x]) F hr rfl b hx I (.cons rfl (.cons rx .nil)) h) (fun r s' z => ?_) fun _ _ x => x
  obtain ⟨v, H', I', rv, b', rfl, q⟩ := z
  obtain rfl : r = Value.bool b' := rv
  exact wpAny_truthy_bool ⟨.bl b', H', I', rfl, q⟩
theorem op_notInO (M : MCal X.prog X.w X.K X.mg X.base CX k C "__contains__" ps sp) (hr : Room k X.A) (hx : Passes CX X E) : OpR X (compareOp .NotIn) (rInO C sp E true) := by
  intro pins s σ H x o xv ov Q I rx ro h
  obtain ⟨a, dx, fs, rfl, ha, h⟩ := h
  obtain rfl : ov = Value.ref a := ro
  obtain ⟨f, fd, F, hm, b, fi⟩ := M
  obtain ⟨mA, J, _⟩ := ins_get I.hok ha
  obtain ⟨od, J, _⟩ := J.look
  obtain ⟨mm, hF⟩ := I.fr
  refine PySem.W.notIn_K hF I.ok.mod.kin J hm.at_ hm.fn ?_
  refine wpAny_mono (run_at (vs := [.ref a, x]) F hr rfl b hx I (.cons rfl (.cons rx .nil)) h) (fun r s' z => ?_) fun _ _ x => x
  obtain ⟨v, H', I', rv, b', rfl, q⟩ := z
  obtain rfl : r = Value.bool b' := rv
  exact wpAny_truthy_bool ⟨.bl (!b'), H', I', rfl, q⟩
/-- len(o) -/
def cLenO (C : Addr) (sp : Sp) (E : XK) : List V → Hp → VK → Prop := fun xs H Q => ∃ a dx fs, xs = [.ref a] ∧ H a = some (.ins C dx fs) ∧ sp [.ref a] H (fun v H' => ∃ n : Nat, v = .int n ∧ n ≤ sizeLine ∧ Q (.int n) H') E
theorem call_lenO (M : MCal X.prog X.w X.K X.mg X.base CX k C "__len__" ps sp) (hr : Room (k + 1) X.A) (hx : Passes CX X E) : CallR X (.builtin "len") (cLenO C sp E) := by
  intro pins s σ H xs us Q I r h
  obtain ⟨a, dx, fs, rfl, ha, h⟩ := h
  cases r with
  | cons rv rn =>
    cases rn
    rename_i ov
    obtain rfl : ov = Value.ref a := rv
    obtain ⟨f, fd, F, hm, b, fi⟩ := M
    obtain ⟨mA, J, _⟩ := ins_get I.hok ha
    obtain ⟨od, J, _⟩ := J.look
    obtain ⟨mm, hF⟩ := I.fr
    refine PySem.W.len_K hF I.ok.mod.kin J hm.at_ hm.fn ?_
    refine wpAny_mono (run_at (A := X.A.in1) (vs := [.ref a]) F hr.in1 rfl b hx I (.cons rfl .nil) h) (fun r s' z => ?_) fun _ _ x => x
    obtain ⟨v, H', I', rv, n, rfl, hn, q⟩ := z
    obtain ⟨t, rfl⟩ := rv
    have z := hn
    rw [sizeLine_eq] at z
    exact ⟨by omega, ⟨.int n, H', I'.tok _, ⟨_, rfl⟩, q⟩⟩
/-- e.f, a property -/
structure Prp (P : Program) (w : World) (K : PySem.W.Frag) (mg : Str → Option Value) (base : Heap) (CX : CXT) (k : Nat) (C : Addr) (f : Str) (sp : Sp) : Prop where
  ex : ∃ (p g : Addr) (fd : FuncData) (ps : List Str), PropOf K C f p g ∧ FnOk P w K mg base CX k g fd ps sp ∧ Binds K fd ps []
theorem pe_prp {f : Str} (he : PE X e ta) (c : Cls X.K C) (p : Prp X.prog X.w X.K X.mg X.base CX k C f sp) (hr : Room (k + 1) X.A) (hx : Passes CX X.nox E) (hab : attributeBase e f X.env (eval e X.env) = eval e X.env := by rfl) : PE X (.Attribute e f pos) (tProp C sp [] E ta) := by
  obtain ⟨p, g, fd, ps, hp, F, b⟩ := p.ex
  exact pe_prop he c hp F hr b .nil hx hab
end
end Ov

set_option Elab.async false
set_option linter.all false
set_option maxRecDepth 100000
namespace Ov
open PySem PySem.Spec PyProof.Rows L2
/-! ### operators that meet dicts and empty tuples too -/
def oAddX (K : PySem.W.Frag) : R2 := fun x y H Q => oAdd K x y H Q ∨ rCatA K x y H Q
theorem op_oAddX {X : Cx} : OpR X (binaryOp .Add) (oAddX X.K) := OpR.or op_oAdd op_catA
def rInD (neg : Bool) : R2 := fun y x H Q => ∃ a o, x = .ref a ∧ DGet H a y o ∧ Q (.bl (if neg then !o.isSome else o.isSome)) H
theorem op_inD {X : Cx} (hu : X.A.units + 1 < cLine) : OpR X (compareOp .In) (rInD false) := by
  intro pins s σ H y x v u Q I ry rx h
  obtain ⟨a, o, rfl, g, q⟩ := h
  obtain rfl : u = Value.ref a := rx
  exact d_in hu I g ry fun s3 I3 => ⟨.bl o.isSome, H, I3, rfl, q⟩
theorem op_notInD {X : Cx} (hu : X.A.units + 1 < cLine) : OpR X (compareOp .NotIn) (rInD true) := by
  intro pins s σ H y x v u Q I ry rx h
  obtain ⟨a, o, rfl, g, q⟩ := h
  obtain rfl : u = Value.ref a := rx
  exact d_notIn hu I g ry fun s3 I3 => ⟨.bl (!o.isSome), H, I3, rfl, q⟩
def oInX (K : PySem.W.Frag) : R2 := fun x y H Q => oIn K x y H Q ∨ rInD false x y H Q
def oNotInX (K : PySem.W.Frag) : R2 := fun x y H Q => oNotIn K x y H Q ∨ rInD true x y H Q
theorem op_oInX {X : Cx} (hu : X.A.units + 65 < cLine) : OpR X (compareOp .In) (oInX X.K) := OpR.or (op_oIn hu) (op_inD (by omega))
theorem op_oNotInX {X : Cx} (hu : X.A.units + 65 < cLine) : OpR X (compareOp .NotIn) (oNotInX X.K) := OpR.or (op_oNotIn hu) (op_notInD (by omega))
def rIxD : R2 := fun x y H Q => ∃ a v, x = .ref a ∧ DGet H a y (some v) ∧ Q v H
theorem ix_dict {X : Cx} (hu : X.A.units + 1 < cLine) : IxR X rIxD := by
  intro value slice pins s σ H x y v u Q I rx ry h hs
  obtain ⟨a, w, rfl, g, q⟩ := h
  obtain rfl : v = Value.ref a := rx
  have hT := dict_typeIs I g
  unfold subscriptTail
  refine wpAny_bind ?_
  rw [getitemInPython_of_ne hT.not_modules]
  refine wpAny_bind (wpAny_specialOf hT PySem.F.slot_dict_getitem.lookup ?_)
  have fin : wpAny (model X.prog X.w) X.A (subscripted slice false (.ref a) u) (fun r s₃ => wpAny (model X.prog X.w) X.A (letTemporaryGo value (.ref a) r >>= fun _ => pure r) (EP X pins σ Q) X.xe s₃) X.xe s := by
    rw [hs]
    exact wpAny_operating (wpAny_mono (d_getItem (Q := EP X pins σ Q) hu I g ry fun w' s3 I3 rw' => ⟨w, H, I3, rw', q⟩) (fun r s₃ h₃ => wpAny_bind (wpAny_letTemporaryGo (wpAny_pure h₃))) fun _ _ x => x)
  first
    | exact wpAny_pure (wpAny_bind fin)
    | exact wpAny_bind (wpAny_pure (wpAny_bind fin))
    | exact wpAny_bind fin
theorem IxR.or {X : Cx} {r r' : R2} (a : IxR X r) (b : IxR X r') : IxR X (fun x y H Q => r x y H Q ∨ r' x y H Q) := by
  intro value slice pins s σ H x y v u Q I rx ry h hs
  rcases h with h | h
  · exact a value slice pins s σ H x y v u Q I rx ry h hs
  · exact b value slice pins s σ H x y v u Q I rx ry h hs
def oIxX (K : PySem.W.Frag) : R2 := fun x y H Q => oIx K x y H Q ∨ rIxD x y H Q
theorem ix_oIxX {X : Cx} (hu : X.A.units + 65 < cLine) : IxR X (oIxX X.K) := IxR.or ix_oIx (ix_dict (by omega))
theorem PSet.or {X : Cx} {r r' : TSet} (a : PSet X r) (b : PSet X r') : PSet X (fun o i v H Q => r o i v H Q ∨ r' o i v H Q) := by
  intro pins s σ H o i v ov iv u Q I ro ri rv h
  rcases h with h | h
  · exact a pins s σ H o i v ov iv u Q I ro ri rv h
  · exact b pins s σ H o i v ov iv u Q I ro ri rv h
def rSetX : TSet := fun o i v H Q => rSetL o i v H Q ∨ rSetD o i v H Q
theorem set_X {X : Cx} (hu : X.A.units + 65 < cLine) : PSet X rSetX := PSet.or set_list (set_dict (by omega))
theorem CallR.or {X : Cx} {f : Value} {r r' : List V → Hp → VK → Prop} (a : CallR X f r) (b : CallR X f r') : CallR X f (fun xs H Q => r xs H Q ∨ r' xs H Q) := by
  intro pins s σ H xs us Q I rx h
  rcases h with h | h
  · exact a pins s σ H xs us Q I rx h
  · exact b pins s σ H xs us Q I rx h
def cLenX (K : PySem.W.Frag) : List V → Hp → VK → Prop := fun xs H Q => cLen K xs H Q ∨ ∃ a kvs, xs = [.ref a] ∧ Rd H a (.dK kvs) ∧ Q (.int kvs.length) H
theorem call_cLenX {X : Cx} : CallR X (.builtin "len") (cLenX X.K) := by
  refine CallR.or call_cLen ?_
  intro pins s σ H xs us Q I rx h
  obtain ⟨a, kvs, rfl, e, q⟩ := h
  cases rx with
  | cons rv rn =>
    cases rn
    rename_i u
    obtain rfl : u = Value.ref a := rv
    exact d_len I e fun t s' I' => ⟨.int kvs.length, H, I', ⟨_, rfl⟩, q⟩
def cTupX (K : PySem.W.Frag) : List V → Hp → VK → Prop := fun xs H Q => ∃ p ys, xs = [.ref p] ∧ ((SqL K H p ys ∧ ∀ l, H l = none → Q (.ref l) (upd H l (.tup ys))) ∨ (SqT K H p ys ∧ Q (.ref p) H))
theorem call_cTupX {X : Cx} : CallR X (.type "tuple") (cTupX X.K) := call_tuple_of
def cSortD : List V → Hp → VK → Prop := fun xs H Q => ∃ (a : Addr) (kvs : List (Key × V)) (ks : List Str), xs = [.ref a] ∧ Rd H a (.dK kvs) ∧ kvs.map (·.1) = ks.map Sum.inr ∧ ks.length < 64 ∧
    ∀ ys p, ys.Perm ks → sortedS ys = true → H p = none → Q (.ref p) (upd H p (.lst (ys.map V.str)))
theorem call_cSortD {X : Cx} (hcalm : X.calm = true) : CallR X (.builtin "sorted") cSortD := call_sortedD hcalm
/-! ### fields, constants and properties of an object whose class is known -/
section
variable {X : Cx} {C : Addr} {f : Str} {pos pos' : Pos} {e o value : Expr} {ta tv : TE} {v : V}
def tFldC (C : Addr) (f : Str) (ta : TE) : TE := fun σ H Q => ta σ H fun x H1 => ∃ a dx fs v, x = .ref a ∧ H1 a = some (.ins C dx fs) ∧ fs.lookup f = some v ∧ Q v H1
theorem PE.of {e : Expr} {t u : TE} (h : PE X e t) (k : ∀ σ H Q, u σ H Q → t σ H Q) : PE X e u := ⟨fun pins s σ H Q I q => h.run pins s σ H Q I (k _ _ _ q)⟩
theorem PE.mono {e : Expr} {t : TE} (h : PE X e t) {pins : List (Addr × Obj)} {s : Shared} {σ : L2.St} {H : Hp} {Q Q' : VK} (I : Inv X pins σ H s) (q : t σ H Q) (k : ∀ x H1, Q x H1 → Q' x H1) : wpAny (model X.prog X.w) X.A (eval e X.env) (EP X pins σ Q') X.xe s :=
  thn (h.run pins s σ H Q I q) fun u s1 ⟨x, H1, I1, rx, z⟩ => ⟨x, H1, I1, rx, k _ _ z⟩
theorem pe_fldC (c : Cls X.K C) (n : NoAttr X.K C f) (he : PE X e ta) (hb : attributeBase e f X.env (eval e X.env) = eval e X.env := by rfl) : PE X (.Attribute e f pos) (tFldC C f ta) := by
  refine ⟨fun pins s σ H Q I h => ?_⟩
  refine attr_of hb (thn (he.run pins s σ H _ I h) fun u s1 ⟨x, H1, I1, rx, a, dx, fs, v, ex, ea, l, q⟩ => ?_)
  subst ex
  obtain rfl : u = Value.ref a := rx
  exact getattr_ok I1 ea c n l fun u' s2 I2 ru => ⟨v, H1, I2, ru, q⟩
def sFldC (C : Addr) (f : Str) (ta tv : TE) : TS := fun D σ H => tv σ H fun y H1 => ta σ H1 fun x H2 => ∃ a dx fs, x = .ref a ∧ H2 a = some (.ins C dx fs) ∧ fs.length < 1000 ∧ D.nx σ (upd H2 a (.ins C dx (putF f y fs)))
theorem ps_fldC (c : Cls X.K C) (n : NoAttr X.K C f) (ha : PE X o ta) (hv : PE X value tv) (hs : swapsWith value (some (.Attribute o f pos')) pos.line X.env = pure false := by rfl) : PS X (.Assign [.Attribute o f pos'] value pos) (sFldC C f ta tv) := by
  refine ⟨fun pins s σ H D I h => ?_⟩
  refine plainObj_wpAny_Assign_Attribute (thn (hv.run pins s σ H _ I h) fun u s1 ⟨y, H1, I1, ry, q⟩ => thn (ha.run pins s1 σ H1 _ I1 q) fun ov s2 ⟨x, H2, I2, rx, a, dx, fs, ex, ea, l, q2⟩ => ?_) hs
  subst ex
  obtain rfl : ov = Value.ref a := rx
  exact setattr_ok I2 ea c n l ry fun s3 I3 => ⟨σ, _, I3, q2⟩
theorem pe_cst {mc u : Value} (he : PE X e (tC (.ref C))) (r : ClX.CRead X.K C mc) (k : ClX.CVal X.K C mc f v u) (hb : attributeBase e f X.env (eval e X.env) = eval e X.env := by rfl) : PE X (.Attribute e f pos) (tC v) := by
  refine ⟨fun pins s σ H Q I h => ?_⟩
  refine attr_of hb (thn (he.run pins s σ H (fun x H1 => x = .ref C ∧ Q v H1) I ⟨rfl, h⟩) fun u s1 ⟨x, H1, I1, rx, ex, q⟩ => ?_)
  subst ex
  obtain rfl : u = Value.ref C := rx
  exact ClX.getcval_ok I1 r k fun s2 I2 => ⟨v, H1, I2, k.rel, q⟩
end
/-! ### the methods of objects, as they stand in the text -/
theorem fn_in {K : PySem.W.Frag} {f : Addr} {oc : Value} {od : Option Addr} {fd : FuncData} {osl : Array (Option Value)} (l : K.lookup f = some ⟨oc, od, .func fd, osl⟩) : PySem.W.fnIn K f = true := by
  unfold PySem.W.fnIn
  rw [l]
theorem mhas_mk {K : PySem.W.Frag} {C : Addr} {m q : Str} {st : Stmt} {ps : List Str} {f : Addr} {oc : Value} {od an : Option Addr} {osl : Array (Option Value)} {kV doc pm cdv ct : Value}
    (a : PySem.W.findIn K (.ref C) m = some (some (.ref f))) (ty : PySem.W.isFn K (.ref f) = true) (l : K.lookup f = some ⟨oc, od, .func (PySem.W.fnOf m q (defArgs st) (defBody st) (defScope st) .none kV doc pm an cdv ct), osl⟩)
    (c : PySem.W.codeIn K cdv q = true) (k : PySem.W.keepIn K (.ref f) = true)
    (hb : ∀ (kV doc pm : Value) (an : Option Addr) (cdv ct : Value) (us : List Value), us.length = ps.length → bindArgs (PySem.W.fnOf m q (defArgs st) (defBody st) (defScope st) .none kV doc pm an cdv ct) ⟨us, []⟩ = pure (ps.zip us)) : MHas K C m q st ps :=
  ⟨f, _, fun_mk l c k, ⟨a, ty, k⟩, fn_in l, hb kV doc pm an cdv ct⟩
/-- the getter of a property stands in the text -/
def PHas (K : PySem.W.Frag) (C : Addr) (m q : Str) (st : Stmt) (ps : List Str) : Prop :=
  ∃ (p g : Addr) (fd : FuncData), PropOf K C m p g ∧ Fun K m q st g fd ∧ ∀ us : List Value, us.length = ps.length → bindArgs fd ⟨us, []⟩ = pure (ps.zip us)
theorem phas_mk {K : PySem.W.Frag} {C : Addr} {m q : Str} {st : Stmt} {ps : List Str} {p g : Addr} {oc : Value} {od an : Option Addr} {osl : Array (Option Value)} {kV doc pm cdv ct : Value}
    (a : PropOf K C m p g) (l : K.lookup g = some ⟨oc, od, .func (PySem.W.fnOf m q (defArgs st) (defBody st) (defScope st) .none kV doc pm an cdv ct), osl⟩)
    (c : PySem.W.codeIn K cdv q = true) (k : PySem.W.keepIn K (.ref g) = true)
    (hb : ∀ (kV doc pm : Value) (an : Option Addr) (cdv ct : Value) (us : List Value), us.length = ps.length → bindArgs (PySem.W.fnOf m q (defArgs st) (defBody st) (defScope st) .none kV doc pm an cdv ct) ⟨us, []⟩ = pure (ps.zip us)) : PHas K C m q st ps :=
  ⟨p, g, _, a, fun_mk l c k, hb kV doc pm an cdv ct⟩
section
variable {P : Program} {w : World} {K : PySem.W.Frag} {mg : Str → Option Value} {base : Heap} {CX : CXT} {C : Addr}
theorem PHas.ok {m q : Str} {st : Stmt} {N ps : List Str} {k : Nat} {sp : Sp} (h : PHas K C m q st ps) (S : FnScope N ps (defScope st)) (len : ∀ vs H Q E, sp vs H Q E → vs.length = ps.length)
    (hbody : ∀ (f : Addr) (cdv : Value) (A : Around) (outer : List Env) (s : Shared) (H : Hp) (vs : List V) (Q : VK) (E : XK), Room k (A.deeper (envOfC q (defScope st) s.heap.objs.size f cdv)) → sp vs H Q E →
      ∃ t, PSs (cxOf CX0 P w K mg base N q (defScope st) f cdv A outer s H E).nox (defBody st) t ∧ t { nx := fun _ H' => Q .non H', rt := Q } (start N vs) H) : Prp P w K mg base CX0 (k + 1) C m sp := by
  obtain ⟨p, g, fd, hp, F, b⟩ := h
  exact ⟨p, g, fd, ps, hp, F.ok S len (fun cdv A outer s H vs Q E hr h => hbody g cdv A outer s H vs Q E hr h), .all b⟩
end
end Ov
namespace Ov
open PySem PySem.Spec PyProof.Rows L2
def oLtS : R2 := fun x y H Q => ∃ a b, x = .str a ∧ y = .str b ∧ Q (.bl (decide (a.cps.toList < b.cps.toList))) H
theorem op_oLtS {X : Cx} : OpR X (compareOp .Lt) oLtS := op_lt_str
theorem bi_sorted : bootBuiltins "sorted" = some (.builtin "sorted") := by decide +kernel
/-! steps for the readings of objects -/
section
variable {σ : L2.St} {H : Hp} {D : Ends} {te ta tb tv td tk : TE} {Q : VK} {C a dx p q : Addr} {f m : Str} {fs : List (Str × V)} {v x y : V} {sp : Sp} {E : XK} {al : TA} {K : PySem.W.Frag} {kvs : List (Key × V)} {k : Key}
theorem q_fldC (h : ta σ H fun x H1 => ∃ a dx fs v, x = .ref a ∧ H1 a = some (.ins C dx fs) ∧ fs.lookup f = some v ∧ Q v H1) : tFldC C f ta σ H Q := h
theorem q_sfldC (h : tv σ H fun y H1 => ta σ H1 fun x H2 => ∃ a dx fs, x = .ref a ∧ H2 a = some (.ins C dx fs) ∧ fs.length < 1000 ∧ D.nx σ (upd H2 a (.ins C dx (putF f y fs)))) : sFldC C f ta tv D σ H := h
theorem q_meth (h : ta σ H fun x H1 => ∃ a dx fs, x = .ref a ∧ H1 a = some (.ins C dx fs) ∧ fs.lookup m = none ∧ al σ H1 fun vs H2 => sp (x :: (vs ++ [])) H2 Q E) : tMeth C m sp [] E ta al σ H Q := h
theorem q_make (h : al σ H fun vs H1 => ∀ x dx, H1 x = none → H1 dx = none → dx ≠ x → sp (.ref x :: (vs ++ [])) (upd (upd H1 dx (.own x)) x (.ins C dx [])) (fun v H2 => v = .non ∧ Q (.ref x) H2) E) : tMake C sp [] E al σ H Q := h
theorem q_prp (h : ta σ H fun x H1 => ∃ a dx fs, x = .ref a ∧ H1 a = some (.ins C dx fs) ∧ sp (.ref a :: []) H1 Q E) : tProp C sp [] E ta σ H Q := h
theorem q_dnew (h : ∀ p, H p = none → Q (.ref p) (upd H p (.dK []))) : tDNewK σ H Q := h
theorem q_inK {kvs : List (Key × V)} (hp : H p = some (.dK kvs)) (h : Q (.bl (valV kvs k).isSome) H) : oInX K (kV k) (.ref p) H Q := .inr ⟨p, _, rfl, DGet.k hp, h⟩
theorem q_ixD {kvs : List (Key × V)} (hp : H p = some (.dK kvs)) (e : valV kvs k = some v) (h : Q v H) : oIxX K (.ref p) (kV k) H Q := .inr ⟨p, v, rfl, e ▸ DGet.k hp, h⟩
theorem q_ixX (h : oIx K x y H Q) : oIxX K x y H Q := .inl h
theorem q_addX (h : oAdd K x y H Q) : oAddX K x y H Q := .inl h
theorem q_lenX {xs : List V} (h : cLen K xs H Q) : cLenX K xs H Q := .inl h
theorem q_lenD (hp : H p = some (.dK kvs)) (h : Q (.int kvs.length) H) : cLenX K [.ref p] H Q := .inr ⟨p, kvs, rfl, .inl hp, h⟩
theorem q_setD {QH : Hp → Prop} (hp : H p = some (.dK kvs)) (hl : kvs.length < sizeLine) (h : QH (upd H p (.dK (putK kvs k v)))) : rSetX (.ref p) (kV k) v H QH := .inr ⟨p, _, rfl, DPut.k hp hl, h⟩
theorem q_tupL {xs : List V} (hp : H p = some (.lst xs)) (h : ∀ l, H l = none → Q (.ref l) (upd H l (.tup xs))) : cTupX K [.ref p] H Q := ⟨p, xs, rfl, .inl ⟨SqL.of hp, h⟩⟩
/-- t + (x,) of tuples -/
theorem q_snocT {xs : List V} {z : V} (hp : H p = some (.tup xs)) (hq : H q = some (.tup [z])) (hl : xs.length + 1 ≤ sizeLine) (h0 : xs = [] → Q (.ref q) H) (h : ∀ r, H r = none → Q (.ref r) (upd H r (.tup (xs ++ [z])))) : oAddX K (.ref p) (.ref q) H Q :=
  .inr ⟨p, q, xs, [z], rfl, rfl, SqT.of hp, SqT.of hq, hl, h0, (fun _ e => nomatch e), fun _ _ => h⟩
end
end Ov

set_option Elab.async false
set_option linter.all false
set_option maxRecDepth 100000
set_option maxHeartbeats 2000000
namespace Ov
open PySem PySem.Spec PyProof.Rows L2
/-! ### calls whose errors are let out, caught, or cannot be, by the caller's slots -/
theorem pAt0 {X : Cx} {σ : L2.St} {E : XK} : PassesAt CX0 X σ E := fun _ _ _ _ _ _ z => z.elim
theorem pAtN {X : Cx} {σ : L2.St} : PassesAt (L2.CX X.prog X.w) X σ E0 := fun _ _ _ _ _ _ z => by
  obtain ⟨_, _, _, _, _, _, _, _, _, _, _, _, f⟩ := z
  exact f.elim
theorem pAtP {X : Cx} {CX : CXT} {E : XK} {σ : L2.St} (h : Passes CX X E) : PassesAt CX X σ E := fun pins H s e s' I c => h pins σ H s e s' I c
section
variable {X : Cx} {CX : CXT} {k : Nat} {C : Addr} {ps : List Str} {sp : Sp} {A : Around} {f : Addr} {fd : FuncData} {pins : List (Addr × Obj)} {σ : L2.St} {H : Hp} {s : Shared} {Q : VK} {us : List Value} {vs : List V} {E : XK}
theorem env_at (I : Inv X pins σ H s) (hf : A.frames = X.A.frames) : Env0 X.prog X.w X.K X.mg X.base A X.stack s H := by
  have z := I.env0
  exact ⟨by rw [hf]; exact z.frames, z.mod, z.bs, z.bsz, z.funs, z.frf, z.hok, z.bare⟩
/-- the callee's code, somewhere below -/
theorem code_atS (F : FnOk X.prog X.w X.K X.mg X.base CX k f fd ps sp) (hr : Room k A) (hf : A.frames = X.A.frames) (hb : Binds X.K fd ps []) (hx : PassesAt CX X σ E) (I : Inv X pins σ H s) (r : Vals vs us) (h : sp vs H Q E) :
    codeAny (model X.prog X.w) A (.call (.ref f) ⟨us, []⟩) (fun r s' => match r with | .ok (.ret v) => EP X pins σ Q v s' | .ok _ => False | .error e => X.xe e s') s := by
  have hl : us.length = ps.length := by rw [← r.length]; exact F.len _ _ _ _ h
  have bd := hb s us I.kIn (by simpa using hl)
  refine codeAny_mono (F.run A X.stack s H ⟨us, []⟩ us vs Q E hr (env_at I hf) (by simpa using bd) r h) fun r s' z => ?_
  cases r with
  | error e => exact hx pins H s e s' I z
  | ok fl =>
    cases fl with
    | ret u => exact I.after z
    | next => exact z.elim
    | brk => exact z.elim
    | cont => exact z.elim
/-- a callee that raises nothing -/
theorem code_at0 (F : FnOk X.prog X.w X.K X.mg X.base CX0 k f fd ps sp) (hr : Room k A) (hf : A.frames = X.A.frames) (hb : Binds X.K fd ps []) (I : Inv X pins σ H s) (r : Vals vs us) (h : sp vs H Q E) :
    codeAny (model X.prog X.w) A (.call (.ref f) ⟨us, []⟩) (fun r s' => match r with | .ok (.ret v) => EP X pins σ Q v s' | _ => False) s := by
  have hl : us.length = ps.length := by rw [← r.length]; exact F.len _ _ _ _ h
  have bd := hb s us I.kIn (by simpa using hl)
  refine codeAny_mono (F.run A X.stack s H ⟨us, []⟩ us vs Q E hr (env_at I hf) (by simpa using bd) r h) fun r s' z => ?_
  cases r with
  | error e => exact z.elim
  | ok fl =>
    cases fl with
    | ret u => exact I.after z
    | next => exact z.elim
    | brk => exact z.elim
    | cont => exact z.elim
theorem run_atS (F : FnOk X.prog X.w X.K X.mg X.base CX k f fd ps sp) (hr : Room k A) (hf : A.frames = X.A.frames) (hb : Binds X.K fd ps []) (hx : PassesAt CX X σ E) (I : Inv X pins σ H s) (r : Vals vs us) (h : sp vs H Q E) :
    wpAny (model X.prog X.w) A (call (.ref f) us) (EP X pins σ Q) X.xe s := wpAny_call (code_atS F hr hf hb hx I r h)
theorem run_at0 {E1 : Value → Shared → Prop} (F : FnOk X.prog X.w X.K X.mg X.base CX0 k f fd ps sp) (hr : Room k A) (hf : A.frames = X.A.frames) (hb : Binds X.K fd ps []) (I : Inv X pins σ H s) (r : Vals vs us) (h : sp vs H Q E) :
    wpAny (model X.prog X.w) A (call (.ref f) us) (EP X pins σ Q) E1 s := wpAny_call (codeAny_mono (code_at0 F hr hf hb I r h) fun r s' z => by
  cases r with
  | error e => exact z.elim
  | ok fl =>
    cases fl with
    | ret u => exact z
    | next => exact z.elim
    | brk => exact z.elim
    | cont => exact z.elim)
theorem run_mkS (mk : PySem.W.makesIn X.K C = true) (M : MCal X.prog X.w X.K X.mg X.base CX k C "__init__" ps sp) (hr : Room (k + 1) X.A) (hx : PassesAt CX X σ E) (I : Inv X pins σ H s) (r : Vals vs us)
    (h : ∀ x dx, H x = none → H dx = none → dx ≠ x → sp (.ref x :: vs) (upd (upd H dx (.own x)) x (.ins C dx [])) (fun v H2 => v = .non ∧ Q (.ref x) H2) E) :
    wpAny (model X.prog X.w) X.A (call (.ref C) us) (EP X pins σ Q) X.xe s := by
  obtain ⟨f, fd, F, hm, b, fi⟩ := M
  have h0 := h (s.heap.objs.size + 1) s.heap.objs.size (I.hok.fresh (Nat.le_succ _)) (I.hok.fresh (Nat.le_refl _)) (Nat.ne_of_lt (Nat.lt_succ_self _))
  have J := Inv.made (C := C) I
  refine wpAny_call (make_map (f := f) I.kIn mk hm.at_ (beq_iff_eq.mp hm.fn) (codeAny_mono (code_atS (A := X.A.under (.builtin "type.__call__" ⟨.ref C :: us, []⟩)) F (hr.make C us [])
    (by rw [(J.env0.make C us []).frames, J.env0.frames]) b hx J (Paired.cons (show RelV (.ref (s.heap.objs.size + 1)) (Value.ref (s.heap.objs.size + 1)) from rfl) r) h0) fun r s' z => ?_))
  cases r with
  | error e => exact z
  | ok fl =>
    cases fl with
    | ret u =>
      obtain ⟨v, H', I3, rv, ev, q3⟩ := z
      subst ev
      exact ⟨rv, ⟨V.ref (s.heap.objs.size + 1), H', I3, rfl, q3⟩⟩
    | next => exact z.elim
    | brk => exact z.elim
    | cont => exact z.elim
end
/-- C(..), what it raises wished for at the slots -/
def tMakeS (C : Addr) (sp : Sp) (E : L2.St → XK) (t : TA) : TE := fun σ H Q => t σ H fun vs H1 => ∀ x dx, H1 x = none → H1 dx = none → dx ≠ x →
  sp (.ref x :: vs) (upd (upd H1 dx (.own x)) x (.ins C dx [])) (fun v H2 => v = .non ∧ Q (.ref x) H2) (E σ)
/-- x(..), x a name of the def that holds the class at C -/
def tMakeV (i : Nat) (C : Addr) (sp : Sp) (E : L2.St → XK) (t : TA) : TE := fun σ H Q => σ[i]? = some (some (.ref C)) ∧ tMakeS C sp E t σ H Q
def tMethS (C : Addr) (m : Str) (sp : Sp) (E : L2.St → XK) (ta : TE) (t : TA) : TE := fun σ H Q => ta σ H fun x H1 => ∃ a dx fs, x = .ref a ∧ H1 a = some (.ins C dx fs) ∧ fs.lookup m = none ∧ t σ H1 fun vs H2 => sp (x :: vs) H2 Q (E σ)
/-- C.m(..), m a classmethod -/
def tKMeth (C : Addr) (sp : Sp) (E : L2.St → XK) (ta : TE) (t : TA) : TE := fun σ H Q => ta σ H fun x H1 => x = .ref C ∧ t σ H1 fun vs H2 => sp (.ref C :: vs) H2 Q (E σ)
/-- the classmethod m of the class at C keeps sp -/
def KCal (P : Program) (w : World) (K : PySem.W.Frag) (mg : Str → Option Value) (base : Heap) (CX : CXT) (k : Nat) (C : Addr) (m : Str) (ps : List Str) (sp : Sp) : Prop :=
  ∃ (p g : Addr) (fd : FuncData), FnOk P w K mg base CX k g fd ps sp ∧ ClX.CMet K C (.type "type") m p g ∧ Binds K fd ps []
def KHas (K : PySem.W.Frag) (C : Addr) (m q : Str) (st : Stmt) (ps : List Str) : Prop :=
  ∃ (p g : Addr) (fd : FuncData), Fun K m q st g fd ∧ ClX.CMet K C (.type "type") m p g ∧ ∀ us : List Value, us.length = ps.length → bindArgs fd ⟨us, []⟩ = pure (ps.zip us)
section
variable {P : Program} {w : World} {K : PySem.W.Frag} {mg : Str → Option Value} {base : Heap} {C : Addr} {m q : Str} {st : Stmt} {N ps : List Str} {k : Nat} {sp : Sp}
theorem KHas.ok (h : KHas K C m q st ps) (S : FnScope N ps (defScope st)) (len : ∀ vs H Q E, sp vs H Q E → vs.length = ps.length)
    (hbody : ∀ (f : Addr) (cdv : Value) (A : Around) (outer : List Env) (s : Shared) (H : Hp) (vs : List V) (Q : VK) (E : XK), Room k (A.deeper (envOfC q (defScope st) s.heap.objs.size f cdv)) → sp vs H Q E →
      ∃ t, PSs (cxOf CX0 P w K mg base N q (defScope st) f cdv A outer s H E).nox (defBody st) t ∧ t { nx := fun _ H' => Q .non H', rt := Q } (start N vs) H) : KCal P w K mg base CX0 (k + 1) C m ps sp := by
  obtain ⟨p, g, fd, F, M, b⟩ := h
  exact ⟨p, g, fd, F.ok S len (fun cdv A outer s H vs Q E hr h => hbody g cdv A outer s H vs Q E hr h), M, .all b⟩
theorem KHas.okX (h : KHas K C m q st ps) (S : FnScope N ps (defScope st)) (len : ∀ vs H Q E, sp vs H Q E → vs.length = ps.length)
    (hbody : ∀ (f : Addr) (cdv : Value) (A : Around) (outer : List Env) (s : Shared) (H : Hp) (vs : List V) (Q : VK) (E : XK), Room k (A.deeper (envOfC q (defScope st) s.heap.objs.size f cdv)) → sp vs H Q E →
      ∃ t, PSs (cxOf (L2.CX P w) P w K mg base N q (defScope st) f cdv A outer s H E) (defBody st) t ∧ t { nx := fun _ H' => Q .non H', rt := Q } (start N vs) H) : KCal P w K mg base (L2.CX P w) (k + 1) C m ps sp := by
  obtain ⟨p, g, fd, F, M, b⟩ := h
  exact ⟨p, g, fd, F.okX S len (fun cdv A outer s H vs Q E hr h => hbody g cdv A outer s H vs Q E hr h), M, .all b⟩
end
section
variable {X : Cx} {CX : CXT} {k : Nat} {C : Addr} {m : Str} {ps : List Str} {sp : Sp} {E : L2.St → XK} {p pos apos : Pos} {o e : Expr} {es : List Expr} {ta : TE} {t : TA} {x : Str} {i : Nat}
theorem pe_mkS (M0 : MkC X.K X.mg x C) (M : MCal X.prog X.w X.K X.mg X.base CX k C "__init__" ps sp) (hr : Room (k + 1) X.A) (hx : ∀ σ, PassesAt CX X σ (E σ)) (hg : Gl X x) (ha : PA X (e :: es) t) (hdb : (x == ("__debug__" : Str)) = false := by decide)
    (he : starEach (e :: es) X.env = (false, eval e X.env) :: starEach es X.env := by rfl) (hpl : (backTo pos (starEach es X.env)).any (·.1) = false := by rfl) : PE X (.Call (.Name x p) (e :: es) [] pos) (tMakeS C sp E t) := by
  refine ⟨fun pins s σ H Q I h => wpAny_Call_Name_kw (ld_glob I hg M0.gl ?_ hdb)⟩
  exact PySem.W.callWith_K (h₀ := X.base) I.ok.mod.kin M0.kp (thn (ha.run pos pins s σ H _ I h) fun us s1 ⟨vs, H1, I1, r, z⟩ => ⟨I1.kIn, run_mkS M0.makes M hr (hx σ) I1 r z⟩) he hpl
theorem pe_mkS0 (M0 : MkC X.K X.mg x C) (M : MCal X.prog X.w X.K X.mg X.base CX k C "__init__" ps sp) (hr : Room (k + 1) X.A) (hx : ∀ σ, PassesAt CX X σ (E σ)) (hg : Gl X x) (hdb : (x == ("__debug__" : Str)) = false := by decide) :
    PE X (.Call (.Name x p) [] [] pos) (tMakeS C sp E tNil) := by
  refine ⟨fun pins s σ H Q I h => wpAny_Call_Name_kw (ld_glob I hg M0.gl ?_ hdb)⟩
  exact PySem.W.callWith_K0 I.kIn M0.kp (run_mkS (us := []) M0.makes M hr (hx σ) I .nil h)
theorem pe_mkV (mk : PySem.W.makesIn X.K C = true) (kp : PySem.W.keepIn X.K (.ref C) = true) (M : MCal X.prog X.w X.K X.mg X.base CX k C "__init__" ps sp) (hr : Room (k + 1) X.A) (hx : ∀ σ, PassesAt CX X σ (E σ)) (hN : X.N[i]? = some x) (hv : Vis X.env.scope x) (ha : PA X (e :: es) t)
    (hd : (x == ("__debug__" : Str)) = false := by decide) (hcd : (x == ("__classdict__" : Str)) = false := by decide)
    (he : starEach (e :: es) X.env = (false, eval e X.env) :: starEach es X.env := by rfl) (hpl : (backTo pos (starEach es X.env)).any (·.1) = false := by rfl) : PE X (.Call (.Name x p) (e :: es) [] pos) (tMakeV i C sp E t) := by
  refine ⟨fun pins s σ H Q I h => ?_⟩
  obtain ⟨hs, h⟩ := h
  refine wpAny_Call_Name_kw (thn ((pe_var (pos := p) (i := i) hN hv hd hcd).run pins s σ H (fun v H1 => v = .ref C ∧ H1 = H) I ⟨.ref C, hs, rfl, rfl⟩) fun u s1 ⟨v, H1, I1, r1, ev, eH⟩ => ?_)
  subst ev eH
  cases r1
  exact PySem.W.callWith_K (h₀ := X.base) I.ok.mod.kin kp (thn (ha.run pos pins s1 σ _ _ I1 h) fun us s2 ⟨vs, H2, I2, r, z⟩ => ⟨I2.kIn, run_mkS mk M hr (hx σ) I2 r z⟩) he hpl
theorem pe_mthS {pl : Sem Bool} (he : PE X o ta) (c : Cls X.K C) (M : MCal X.prog X.w X.K X.mg X.base CX k C m ps sp) (hr : Room k X.A) (hx : ∀ σ, PassesAt CX X σ (E σ)) (ha : PA X (e :: es) t)
    (hst : starEach (e :: es) X.env = (false, eval e X.env) :: starEach es X.env := by rfl) (hpl : (backTo pos (starEach es X.env)).any (·.1) = false := by rfl)
    (ht : eval (.Call (.Attribute o m apos) (e :: es) [] pos) X.env = (do
      let ov ← eval o X.env
      standAt apos.atName
      let (f, first) ← holding [ov] (getMethod ov m pl)
      callWith pos f first (backTo pos (starEach (e :: es) X.env)) (backToKw pos (keywordEach [] X.env))) := by rfl) :
    PE X (.Call (.Attribute o m apos) (e :: es) [] pos) (tMethS C m sp E ta t) := by
  obtain ⟨f, fd, F, hm, b, fi⟩ := M
  refine ⟨fun pins s σ H Q I h => PySem.W.methodCall_KW (pl := pl) (thn (he.run pins s σ H _ I h) fun u s1 ⟨x, H1, I1, rx, a, dx, fs, ex, ea, l, z⟩ => ?_) ht⟩
  subst ex
  obtain rfl : u = Value.ref a := rx
  refine getmeth_ok I1 ea c hm l (PySem.W.callWith_K (first := [.ref a]) (h₀ := X.base) I.ok.mod.kin hm.kp (thn (ha.run pos pins s1 σ H1 _ I1 z) fun us s2 ⟨vs, H2, I2, r, y⟩ => ⟨I2.kIn, ?_⟩) hst hpl)
  exact run_atS (us := .ref a :: us) (vs := .ref a :: vs) F hr rfl b (hx σ) I2 (.cons rfl r) y
theorem pe_mthS0 {pl : Sem Bool} (he : PE X o ta) (c : Cls X.K C) (M : MCal X.prog X.w X.K X.mg X.base CX k C m ps sp) (hr : Room k X.A) (hx : ∀ σ, PassesAt CX X σ (E σ))
    (ht : eval (.Call (.Attribute o m apos) [] [] pos) X.env = (do
      let ov ← eval o X.env
      standAt apos.atName
      let (f, first) ← holding [ov] (getMethod ov m pl)
      callWith pos f first (backTo pos (starEach [] X.env)) (backToKw pos (keywordEach [] X.env))) := by rfl) :
    PE X (.Call (.Attribute o m apos) [] [] pos) (tMethS C m sp E ta tNil) := by
  obtain ⟨f, fd, F, hm, b, fi⟩ := M
  refine ⟨fun pins s σ H Q I h => PySem.W.methodCall_KW (pl := pl) (thn (he.run pins s σ H _ I h) fun u s1 ⟨x, H1, I1, rx, a, dx, fs, ex, ea, l, z⟩ => ?_) ht⟩
  subst ex
  obtain rfl : u = Value.ref a := rx
  exact getmeth_ok I1 ea c hm l (PySem.W.callWith_K0 (first := [.ref a]) I1.kIn hm.kp (run_atS (us := [.ref a]) (vs := [.ref a]) F hr rfl b (hx σ) I1 (.cons rfl .nil) z))
theorem pe_kmS {pl : Sem Bool} (he : PE X o ta) (rd : ClX.CRead X.K C (.type "type")) (M : KCal X.prog X.w X.K X.mg X.base CX k C m ps sp) (hr : Room k X.A) (hx : ∀ σ, PassesAt CX X σ (E σ)) (ha : PA X (e :: es) t)
    (hst : starEach (e :: es) X.env = (false, eval e X.env) :: starEach es X.env := by rfl) (hpl : (backTo pos (starEach es X.env)).any (·.1) = false := by rfl)
    (ht : eval (.Call (.Attribute o m apos) (e :: es) [] pos) X.env = (do
      let ov ← eval o X.env
      standAt apos.atName
      let (f, first) ← holding [ov] (getMethod ov m pl)
      callWith pos f first (backTo pos (starEach (e :: es) X.env)) (backToKw pos (keywordEach [] X.env))) := by rfl) :
    PE X (.Call (.Attribute o m apos) (e :: es) [] pos) (tKMeth C sp E ta t) := by
  obtain ⟨p, g, fd, F, c, b⟩ := M
  refine ⟨fun pins s σ H Q I h => PySem.W.methodCall_KW (pl := pl) (thn (he.run pins s σ H _ I h) fun u s1 ⟨x, H1, I1, rx, ex, z⟩ => ?_) ht⟩
  subst ex
  obtain rfl : u = Value.ref C := rx
  refine ClX.getmethcm_ok I1 rd c fun s2 I2 => ?_
  refine ClX.callwith_cm I2 (ClX.base_none I1 (Nat.le_refl _)) c.fi (thn (ha.run pos _ s2 σ H1 _ I2 z) fun us s3 ⟨vs, H2, I3, rv, y⟩ => ⟨⟨ClX.pin_at I3, I3.kIn⟩, ?_⟩) hst hpl
  have fin := wpAny_call (PySem.W.method_call (ClX.pin_at I3) (code_atS (us := .ref C :: us) (vs := .ref C :: vs) F hr rfl b (hx σ) I3 (.cons rfl rv) y))
  exact thn fin fun _ _ y => ClX.unpinE y
end
end Ov

set_option Elab.async false
set_option linter.all false
set_option maxRecDepth 100000
set_option maxHeartbeats 2000000
/-! ### a tuple's iterator at its end -/
namespace OvT
open PySem
section
variable {prog : Program} {w : World} {A : Around} {E : Value → Shared → Prop} {s : Shared}
theorem next_end {z y : Addr} {n : Nat} {its : Array Value} {Q : Option Value → Shared → Prop} (calm : A.handled = none) (hz : s.heap.IsTupleIter z y n) (hy : s.heap.IsTuple y its) (none_ : its[n]? = none)
    (fin : ∀ h', Heap.ExtBut z s.heap h' → (∃ u, h'.get? z = some u) → Q none { s with heap := h' }) : wpAny (model prog w) A (pyNext (.ref z)) Q E s := by
  obtain ⟨oz, gz, cz, dz⟩ := id hz
  obtain ⟨oy, gy, _, ny, dy⟩ := hy
  unfold pyNext
  refine wpAny_bind (wpAny_attempt (wpAny_callSpecial?_slot (name := Str.ofString "__next__") hz.typeIs F.slot_tuple_iterator_next (wpAny_call_entry F.slot_tuple_iterator_next hz.typeIs F.entry_tuple_iterator_next ?_ (F.args_tuple_iterator_next_1 _))))
  show wpAny _ _ (field (.ref z) 0 >>= _) _ _ s
  refine wpAny_bind (wpAny_field gz dz (x := .ref y) rfl ?_)
  show wpAny _ _ (if (Value.ref y == Value.none) = true then _ else _) _ _ s
  rw [if_neg (show ¬ ((Value.ref y == Value.none) = true) from Bool.false_ne_true)]
  show wpAny _ _ (field (.ref z) 1 >>= _) _ _ s
  refine wpAny_bind (wpAny_field gz dz (x := .int n 0) rfl ?_)
  show wpAny _ _ (seqItems? (.ref y) >>= _) _ _ s
  refine wpAny_bind (wpAny_seqItems gy dy ?_)
  simp only [Int.toNat_natCast, none_]
  refine wpAny_bind (wpAny_rule (wpAny_bind (wpAny_setField gz dz (by simp) ?_)))
  show wpAny _ _ (newExc (.type "StopIteration") List.nil >>= _) _ _ _
  refine wpAny_bind ?_
  simp only [newExc, newTuple, raiseNew]
  refine wpAny_bind (wpAny_newObj_type ?_ (by size_fits))
  refine wpAny_bind (m := firstArgMember _ _) (wpAny_of_eq (a := Value.none) (by first | rfl | (simp only [firstArgMember] <;> rfl)) ?_)
  refine wpAny_newObj_type ?_ (by size_fits)
  refine wpAny_bind (wpAny_handled ?_)
  first | rw [show A.in1.handled = none from calm] | rw [calm]
  refine wpAny_bind (wpAny_pure (wpAny_throw ?_))
  refine wpAny_bind (wpAny_isInstance (T := "StopIteration") (b := true) ⟨_, Heap.get?_push_size _ rfl, rfl⟩ isSubtype_stop ?_)
  refine wpAny_pure (fin _ (((Heap.SameBut.update ..).extBut.push _).push _) ⟨_, Heap.get?_push_of_some _ (Heap.get?_push_of_some _ (Heap.get?_update_self _ gz (Obj.isFreed_of_fields (Obj.data_mapFields dz _))))⟩)
end
set_option maxHeartbeats 1000000 in
theorem meets_enumT (l : Addr) (items : Array Value) (n : Nat) (dct : Option Addr) (sl : Array (Option Value)) :
    Meets (Builtin.«enumerate.__new__» ⟨[.type "enumerate", .ref l], []⟩) (fun _ R s => s.heap.get? l = some { cls := .type "tuple", dict := dct, data := .seq items n, slots := sl } ∧
      R (.ok (.ret (.ref (s.heap.push { cls := .type "tuple_iterator", data := .fields #[.ref l, .int 0 0] }).objs.size)))
        { s with heap := (s.heap.push { cls := .type "tuple_iterator", data := .fields #[.ref l, .int 0 0] }).push { cls := .type "enumerate", data := .fields #[.none, .bool false, .ref s.heap.objs.size, rawInt 0, .none, .none] } }) :=
  .of_wp fun prog w A R s h => by
    obtain ⟨hp, g, d, tk, os⟩ := s
    obtain ⟨hl, h⟩ := h
    have hsub := sub_enumerate
    have hT : Heap.IsTuple (Shared.heap ⟨hp, g, d, tk, os⟩) l items := ⟨_, hl, rfl, n, rfl⟩
    wp_walk using AutoSeq1.wpAny_loadPart' hl
    refine wpAny_stack_any fun st => wpAny_pure ?_
    split
    · rename_i c _ _ _ _ _
      cases (c == Value.type "enumerate")
      · wp_walk using AutoSeq1.wpAny_loadPart' hl, wpAny_pyIter_tuple hT
        exact ⟨_, rfl, h⟩
      · wp_walk using AutoSeq1.wpAny_loadPart' hl, wpAny_pyIter_tuple hT
        exact ⟨_, rfl, h⟩
    · wp_walk using AutoSeq1.wpAny_loadPart' hl, wpAny_pyIter_tuple hT
      exact ⟨_, rfl, h⟩
section
variable {prog : Program} {w : World} {A : Around} {E : Value → Shared → Prop} {s : Shared}
theorem call_enumT {l : Addr} {items : Array Value} {Q : Value → Shared → Prop} (hL : s.heap.IsTuple l items)
    (h : ∀ h', IsEnum h' (s.heap.objs.size + 1) s.heap.objs.size 0 .none → h'.IsTupleIter s.heap.objs.size l 0 → (∀ b o, s.heap.get? b = some o → h'.get? b = some o) → Q (.ref (s.heap.objs.size + 1)) { s with heap := h' }) :
    wpAny (model prog w) A (call (.type "enumerate") [.ref l]) Q E s := by
  obtain ⟨⟨c, dct, dt, sl⟩, hl, hc, n, hd⟩ := hL
  dsimp only at hc hd
  subst hc hd
  refine callType_new F.called_enumerate (by decide) (F.typeCall_enumerate_1 _) (F.newCall_enumerate_1 _) (fun obj => F.args_object_init_2 obj _) F.entry_enumerate_new (meets_enumT l items n dct sl) ⟨hl, ?_⟩
  have hz : (s.heap.push { cls := .type "tuple_iterator", data := .fields #[.ref l, .int 0 0] }).objs.size = s.heap.objs.size + 1 := Heap.size_push ..
  show _ ∧ _
  rw [hz]
  have he := Heap.get?_push_size (s.heap.push { cls := .type "tuple_iterator", data := .fields #[.ref l, .int 0 0] }) (o := { cls := .type "enumerate", data := .fields #[.none, .bool false, .ref s.heap.objs.size, rawInt 0, .none, .none] }) rfl
  rw [hz] at he
  exact ⟨⟨_, he, rfl⟩, h _ he ⟨_, Heap.get?_push_of_some _ (Heap.get?_push_size _ rfl), rfl, rfl⟩ fun b o x => Heap.get?_push_of_some _ (Heap.get?_push_of_some _ x)⟩
end
end OvT
namespace Ov
open PySem PySem.Spec PyProof.Rows L2
/-! ### enumerate(tuple) -/
def IteT (K : PySem.W.Frag) (a : Addr) : It :=
  ⟨fun i H => ∃ (xs : List V) (x : V), SqT K H a xs ∧ xs[i]? = some x, fun i H v H' => ∃ T x, v = .ref T ∧ H T = none ∧ H' = upd H T (.tup [.int (i : Nat), x]) ∧ ∀ xs, SqT K H a xs → xs[i]? = some x, fun i H => ∃ xs : List V, SqT K H a xs ∧ xs.length = i⟩
theorem turn_enumT {P : Program} {w : World} {K : PySem.W.Frag} {elts : List Expr} {kk : Nat} {tpos : Pos} (a e it : Addr) :
    Turn P w K (.Tuple elts kk tpos) (IteT K a) [e, it] e (fun i h => (∃ old, IsEnum h e it ((i : Nat) : Int) old) ∧ h.IsTupleIter it a i ∧ e ≠ it) where
  mem := by simp
  obj := fun i h st b hb => by
    obtain ⟨⟨old, he⟩, ⟨o, ho, hc, hd⟩, _⟩ := st
    have z : b = e ∨ b = it := by simpa using hb
    rcases z with z | z
    · subst z
      exact ⟨_, he, fun v q => nomatch q⟩
    · subst z
      exact ⟨o, ho, fun v q => by rw [hd] at q; cases q⟩
  keep := fun i h h' st k => let ⟨⟨old, he⟩, hi, hne⟩ := st; ⟨⟨old, k e (by simp) _ he⟩, hi.at fun o q => k it (by simp) o q, hne⟩
  item := by
    intro X hP hw hK hc i pins s σ H E I hf st hg
    subst hP hw hK
    obtain ⟨⟨old, he⟩, hit, hne⟩ := st
    obtain ⟨xs, x, hq, hx⟩ := hg
    obtain ⟨its, rv, p, hz⟩ := I.tuple hq
    have pT : s.heap.IsTuple a its.toArray := p
    obtain ⟨u, hu, ru⟩ := rv.get hx
    have hel : e < s.heap.objs.size := Heap.lt_size he
    have hil : it < s.heap.objs.size := by obtain ⟨_, q, _⟩ := hit; exact Heap.lt_size q
    have ai : a ≠ it := fun z => by
      obtain ⟨o1, g1, c1, _⟩ := pT
      obtain ⟨o2, g2, c2, _⟩ := id hit
      rw [z, g2] at g1
      cases g1
      rw [c1] at c2
      exact absurd c2 (by decide)
    have ae : a ≠ e := fun z => by
      obtain ⟨o1, g1, c1, _⟩ := pT
      rw [z, show s.heap.get? e = _ from he] at g1
      cases g1
      exact absurd (show Value.type "enumerate" = Value.type "tuple" from c1) (by decide)
    have hlt : i < its.toArray.size := by
      have z := (List.getElem?_eq_some_iff.mp hu).1
      simpa using z
    refine wpAny_pyNext_enum_itemD (Draws.tuple (A := X.A.in1) (I.ok.hd hc) it a ai its.toArray) he ⟨hit, pT⟩ hlt hne (by simp; exact ⟨hne, fun z => ae z.symm⟩) fun x' h' tk hP' ho hit' hT hsz hk => ?_
    have ex : x' = u := by
      have z : its.toArray[i]? = some x' := hP'
      rw [List.getElem?_toArray, hu] at z
      exact (Option.some.inj z).symm
    subst ex
    refine ⟨_, rfl, wpAny_letOwnedTupleGo_enum (s := { s with heap := h', toks := tk + 1 }) ho fun h'' he' sb => ?_⟩
    have hT2 : h''.get? s.heap.objs.size = some { cls := .type "tuple", data := .seq #[.int i tk, x'] } := (sb.2 _ (Nat.ne_of_gt hel)).trans hT
    have new : ObjOk X.prog X.w (upd H s.heap.objs.size (.tup [.int (i : Nat), x])) h'' s.heap.objs.size (.tup [.int (i : Nat), x]) :=
      ⟨by show 2 ≤ sizeLine; decide, [.int i tk, x'], .cons ⟨_, rfl⟩ (.cons ru .nil), ⟨_, hT2, rfl, _, rfl⟩⟩
    have I1 : Inv X pins σ (upd H s.heap.objs.size (.tup [.int (i : Nat), x])) { s with heap := h'', toks := tk + 1 } :=
      I.turnedNew (ch := [e, it]) (fun b ob hb q => (sb.2 b (fun z => hb (by simp [z]))).trans (hk b ob (fun z => hb (by simp [z])) (fun z => hb (by simp [z])) q)) hf (Nat.le_refl _) new
    refine ⟨.ref s.heap.objs.size, _, I1, rfl, ⟨_, x, rfl, I.hok.fresh (Nat.le_refl _), rfl, fun ys hy => by rw [I.tuple_inj hy hq]; exact hx⟩, ⟨⟨x', ?_⟩, hit'.1.at fun o q => (sb.2 it (Ne.symm hne)).trans q, hne⟩, fun b hb => ?_⟩
    · rw [show ((i + 1 : Nat) : Int) = (i : Int) + 1 by omega]
      exact he'
    · have hb' : b < s.heap.objs.size := by
        have z : b = e ∨ b = it := by simpa using hb
        rcases z with z | z <;> rw [z] <;> assumption
      rw [upd_ne (Nat.ne_of_lt hb')]
      exact (hf b hb).1
  done := by
    intro X hP hw hK hc i pins s σ H E I hf st hg
    subst hP hw hK
    obtain ⟨⟨old, he⟩, hit, hne⟩ := st
    obtain ⟨xs, hq, hx⟩ := hg
    obtain ⟨its, rv, p, hz⟩ := I.tuple hq
    have pT : s.heap.IsTuple a its.toArray := p
    obtain ⟨f0, f1, f2, f3, f4, f5⟩ := hf it (by simp)
    have ai : a ≠ it := fun z => by
      obtain ⟨o1, g1, c1, _⟩ := pT
      obtain ⟨o2, g2, c2, _⟩ := id hit
      rw [z, g2] at g1
      cases g1
      rw [c1] at c2
      exact absurd c2 (by decide)
    have hn : its.toArray.size = i := by rw [List.size_toArray, ← rv.length]; exact hx
    subst hn
    exact wpAny_pyNext_enum_endD (Draws.tuple (A := X.A.in1) (I.ok.hd hc) it a ai its.toArray) he ⟨hit, pT⟩ fun h' eb => ⟨rfl, I.turned (t' := s.toks) (fun b o hb q => eb b o hb q) f0 f1 f3 f4 f5⟩
  self := fun A i s Q E st h => let ⟨⟨_, he⟩, _⟩ := st; wpAny_pyIter_enum he h
/-- enumerate(e), e a list or a tuple -/
def iEnumA (K : PySem.W.Frag) (ta : TA) : TI := fun σ H R => ta σ H fun vs H1 => ∃ a xs, vs = [.ref a] ∧ ((SqL K H1 a xs ∧ R (Ite K a) H1) ∨ (SqT K H1 a xs ∧ R (IteT K a) H1))
theorem pi_enumA {X : Cx} {e : Expr} {ta : TA} {p pos tpos : Pos} {elts : List Expr} {kk : Nat} (hg : Gl X "enumerate") (hm : X.mg "enumerate" = none) (ha : PA X [e] ta) (hs : starEach [e] X.env = [(false, eval e X.env)] := by rfl) :
    PI X (.Tuple elts kk tpos) (.Call (.Name "enumerate" p) [e] [] pos) (iEnumA X.K ta) := by
  refine ⟨fun pins s σ H R I h => Call_ (ld_blt I hg hm boot_enumerate (PyProof.Rows.callWith_type1 (thn (ha.run pos pins s σ H _ I h) fun us s1 ⟨vs, H1, I1, r1, q1⟩ => ?_) hs rfl))⟩
  obtain ⟨a, xs, ex, q⟩ := q1
  subst ex
  obtain ⟨u, rfl, ru⟩ := vals1 r1
  cases ru
  have le : ∀ b, b = s1.heap.objs.size + 1 ∨ b = s1.heap.objs.size → s1.heap.objs.size ≤ b := fun b z => by
    rcases z with z | z <;> omega
  rcases q with ⟨hq, q⟩ | ⟨hq, q⟩
  · obtain ⟨its, rv, p', hz⟩ := I1.list hq
    refine call_enumerate_list p'.isList fun h' he hit hsz hk => wpAny_pyIter_enum he ?_
    exact ⟨s1.heap.objs.size + 1, [s1.heap.objs.size + 1, s1.heap.objs.size], _, _, H1, rfl, I1.kept (t' := s1.toks) hk, turn_enum a (s1.heap.objs.size + 1) s1.heap.objs.size, ⟨⟨.none, he⟩, hit, Nat.succ_ne_self _⟩,
      fun b hb => I1.fpOk (le b (by simpa using hb)) (I1.hok.fresh (le b (by simpa using hb))), q⟩
  · obtain ⟨its, rv, p', hz⟩ := I1.tuple hq
    refine OvT.call_enumT (show s1.heap.IsTuple a its.toArray from p') fun h' he hit hk => wpAny_pyIter_enum he ?_
    exact ⟨s1.heap.objs.size + 1, [s1.heap.objs.size + 1, s1.heap.objs.size], _, _, H1, rfl, I1.kept (t' := s1.toks) hk, turn_enumT a (s1.heap.objs.size + 1) s1.heap.objs.size, ⟨⟨.none, he⟩, hit, Nat.succ_ne_self _⟩,
      fun b hb => I1.fpOk (le b (by simpa using hb)) (I1.hok.fresh (le b (by simpa using hb))), q⟩
theorem walk_enumT {K : PySem.W.Frag} {a : Addr} {xs : List V} : Walk (IteT K a) xs.length (fun H => SqT K H a xs) (YPair (fun i => some (.int (i : Nat))) (fun i => xs[i]?)) := by
  refine ⟨fun i _ hi q => ⟨xs, xs[i], q, by simp [hi]⟩, fun _ q => ⟨xs, q, rfl⟩, fun i H v H' _ q y => ?_⟩
  obtain ⟨T, x, h1, h2, h3, h4⟩ := y
  exact ⟨T, .int (i : Nat), x, h1, h2, h3, rfl, h4 xs q⟩
/-! ### iter(tuple) -/
def TItO (y z : Addr) (i : Nat) : HO := .ext fun h => h.IsTupleIter z y i
def TEnd (z : Addr) : HO := .ext fun h => ∃ o, h.get? z = some o
theorem tit_ok {P : Program} {w : World} {H : Hp} {h : Heap} {y z : Addr} {i : Nat} (e : h.IsTupleIter z y i) : ObjOk P w H h z (TItO y z i) := ⟨e, (let ⟨o, g, _⟩ := e; ⟨o, g⟩), fun h1 h2 q k => q.at k⟩
theorem tend_ok {P : Program} {w : World} {H : Hp} {h : Heap} {z : Addr} (e : ∃ o, h.get? z = some o) : ObjOk P w H h z (TEnd z) := ⟨e, e, fun h1 h2 ⟨o, g⟩ k => ⟨o, k o g⟩⟩
def rIterT (K : PySem.W.Frag) : List V → Hp → VK → Prop := fun xs H Q => ∃ (y : Addr) (zs : List V), xs = [.ref y] ∧ SqT K H y zs ∧ ∀ z, H z = none → Q (.ref z) (upd H z (TItO y z 0))
theorem call_iterT {X : Cx} : CallR X (.builtin "iter") (rIterT X.K) := by
  intro pins s σ H xs us Q I r h
  obtain ⟨y, zs, rfl, hq, q⟩ := h
  obtain ⟨u, rfl, ru⟩ := vals1 r
  cases ru
  obtain ⟨its, rv, pt, hz⟩ := I.tuple hq
  have fin : wpAny (model X.prog X.w) X.A.in1 (pyIter (.ref y)) (fun v s' => EP X pins σ Q v s') X.xe s := by
    refine wpAny_pyIter_tuple (show s.heap.IsTuple y its.toArray from pt) ?_
    exact ⟨.ref s.heap.objs.size, _, I.laid (t' := s.toks) (fun b u e => Heap.get?_push_of_some _ e) (Nat.le_refl _) (tit_ok ⟨_, Heap.get?_push_size _ rfl, rfl, rfl⟩), rfl, q _ (I.hok.fresh (Nat.le_refl _))⟩
  refine Calls.call_function_entry (by decide +kernel) (by decide +kernel) PySem.W.kdk_entry_iter (PySem.W.kdk_args_iter _) ?_
  unfold Builtin.«iter»
  refine wpAny_bind (m := someArgs "iter" 1 2 _) (wpAny_of_eq (a := [Value.ref y]) (by first | rfl | kernel_rfl!) ?_)
  show wpAny _ _ (pyIter (.ref y) >>= _) _ _ _
  exact wpAny_bind (wpAny_mono fin (fun v s' z => wpAny_pure ⟨_, rfl, z⟩) fun _ _ z => z)
theorem bi_iter : bootBuiltins "iter" = some (.builtin "iter") := by decide +kernel
section
variable {X : Cx} {pins : List (Addr × Obj)} {σ : L2.St} {H : Hp} {s : Shared} {y z : Addr} {i : Nat} {xs : List V} {A : Around} {E : Value → Shared → Prop} {Q : Option Value → Shared → Prop}
theorem tit_item {v : V} (I : Inv X pins σ H s) (ez : H z = some (TItO y z i)) (ey : SqT X.K H y xs) (hx : xs[i]? = some v) (hQ : ∀ u s', RelV v u → Inv X pins σ (upd H z (TItO y z (i + 1))) s' → Q (some u) s') :
    wpAny (model X.prog X.w) A (pyNext (.ref z)) Q E s := by
  have hz := (I.hok z _ ez).1
  obtain ⟨its, rv, pt, _⟩ := I.tuple ey
  obtain ⟨u, hu, ru⟩ := rv.get hx
  have mu : Mut (H z) := by rw [ez]; exact True.intro
  refine wpAny_pyNext_tuple_item hz (show s.heap.IsTuple y its.toArray from pt) (x := u) (by simpa using hu) fun h' e' sb => hQ u _ ru ?_
  exact I.write (x := z) (e := z) (t' := s.toks) mu (.inl rfl) (fun b o nb g => (sb.2 b nb).trans g) (let ⟨o, g, _⟩ := e'; ⟨o, g⟩) (tit_ok e')
theorem tit_end (calm : A.handled = none) (I : Inv X pins σ H s) (ez : H z = some (TItO y z i)) (ey : SqT X.K H y xs) (hx : xs[i]? = none) (hQ : ∀ s', Inv X pins σ (upd H z (TEnd z)) s' → Q none s') :
    wpAny (model X.prog X.w) A (pyNext (.ref z)) Q E s := by
  have hz := (I.hok z _ ez).1
  obtain ⟨its, rv, pt, _⟩ := I.tuple ey
  have mu : Mut (H z) := by rw [ez]; exact True.intro
  refine OvT.next_end calm hz (show s.heap.IsTuple y its.toArray from pt) (by rw [List.getElem?_toArray]; exact rv.none_of hx) fun h' eb ge => hQ _ ?_
  exact I.write (x := z) (e := z) (t' := s.toks) mu (.inl rfl) (fun b o nb g => eb b o nb g) ge (tend_ok ge)
theorem sqT_ne {K : PySem.W.Frag} {H H' : Hp} {a : Addr} {xs : List V} (h : SqT K H a xs) (e : H' a = H a) : SqT K H' a xs := by
  unfold SqT Rd at h ⊢
  rw [e]
  exact h
theorem it_apart (I : Inv X pins σ H s) (ez : H z = some (TItO y z i)) (ey : SqT X.K H y xs) : y ≠ z := fun e => by
  subst e
  obtain ⟨o1, g1, c1, _⟩ := (I.hok y _ ez).1
  obtain ⟨its, rv, ⟨o2, g2, c2, _⟩, _⟩ := I.tuple ey
  rw [g1] at g2
  cases g2
  rw [c1] at c2
  exact absurd c2 (by decide)
theorem tup_lst {q : Addr} {ys : List V} (I : Inv X pins σ H s) (ey : SqT X.K H y xs) (eq_ : H q = some (.lst ys)) : y ≠ q := fun e => by
  subst e
  obtain ⟨_, its1, n1, _, g1⟩ := I.hok y _ eq_
  obtain ⟨its, rv, ⟨o2, g2, c2, _⟩, _⟩ := I.tuple ey
  rw [g1] at g2
  cases g2
  exact absurd (show Value.type "list" = Value.type "tuple" from c2) (by decide)
/-- the rest of a tuple's iterator is put into a list -/
theorem ext_tup {q : Addr} {Rs : Result → Shared → Prop} {A1 : Around} (calm : A1.handled = none) (nq : q ≠ z) (hxs : xs.length < sizeLine) :
    ∀ (n i : Nat) (H : Hp) (s : Shared), n = xs.length - i → i ≤ xs.length → Inv X pins σ H s → H z = some (TItO y z i) → SqT X.K H y xs → H q = some (.lst (xs.take i)) →
      (∀ H' s', (∀ b, b ≠ z → b ≠ q → H' b = H b) → H' z = some (TEnd z) → H' q = some (.lst xs) → Inv X pins σ H' s' → Rs (.ok (.ret .none)) s') →
      codeAny (model X.prog X.w) A1 (.builtin "list.extend.loop" ⟨[.ref q, .ref z, .none], []⟩) Rs s := by
  intro n
  induction n with
  | zero =>
    intro i H s hn hi I ez ey eq_ fin
    have e : i = xs.length := by omega
    subst e
    refine codeAny_builtin PySem.F.entry_extend_loop ?_
    rw [Around.under_plainId PySem.F.plain_extend_loop _]
    show wpAny _ A1.in1 (pyNext (.ref z) >>= _) _ _ s
    refine wpAny_bind (tit_end (A := A1.in1) calm I ez ey (by simp) fun s' I' => ?_)
    refine wpAny_pure (fin (upd H z (TEnd z)) s' (fun b h1 h2 => upd_ne h1) upd_same ?_ I')
    rw [upd_ne nq, eq_, List.take_length]
  | succ n ih =>
    intro i H s hn hi I ez ey eq_ fin
    have hlt : i < xs.length := by omega
    refine codeAny_builtin PySem.F.entry_extend_loop ?_
    rw [Around.under_plainId PySem.F.plain_extend_loop _]
    show wpAny _ A1.in1 (pyNext (.ref z) >>= _) _ _ s
    have yz := it_apart I ez ey
    refine wpAny_bind (tit_item (A := A1.in1) I ez ey (List.getElem?_eq_getElem hlt) fun u s' ru I' => ?_)
    have eq1 : upd H z (TItO y z (i + 1)) q = some (.lst (xs.take i)) := by rw [upd_ne nq]; exact eq_
    obtain ⟨w1, its, k, r2, hl, e⟩ := I'.lstM eq1
    show wpAny _ A1.in1 (updateSeq q (·.push u) >>= _) _ _ _
    have lt := List.length_take_le i xs
    have l2 : (xs.take i).length = i := by rw [List.length_take]; omega
    refine wpAny_bind (wpAny_updateSeq e rfl (wpAny_pure ⟨plainId_quiet PySem.F.plain_extend_loop _, ?_⟩) (by rw [List.size_toArray]; omega) (by show (its.toArray.push u).size ≤ sizeLine + 1; rw [Array.size_push, List.size_toArray]; omega))
    have tk : xs.take (i + 1) = xs.take i ++ [xs[i]] := by rw [List.take_succ, List.getElem?_eq_getElem hlt]; rfl
    have I2 := I'.lset (f := (·.push u)) (its' := its ++ [u]) (ys := xs.take (i + 1)) (t' := s'.toks) eq1 e (by simp) (by rw [tk]; exact r2.append (.cons ru .nil)) (by rw [List.length_take]; omega)
    have yq : y ≠ q := tup_lst I ey eq_
    refine ih (i + 1) _ _ (by omega) hlt I2 ?_ ?_ upd_same ?_
    · rw [upd_ne (Ne.symm nq), upd_same]
    · exact sqT_ne ey (by rw [upd_ne yq, upd_ne yz])
    · intro H' s'' h1 h2 h3 I3
      exact fin H' s'' (fun b nb nb' => by rw [h1 b nb nb', upd_ne nb', upd_ne nb]) h2 h3 I3
end
/-! ### list(o), o an own object whose __iter__ gives a tuple's iterator -/
section
variable {X : Cx} {pins : List (Addr × Obj)} {σ : L2.St} {C : Addr} {k : Nat} {psI psL : List Str} {spI spL : Sp}
/-- what is said of the length: the own __len__ -/
theorem hint_own {A : Around} {a dx : Addr} {fs : List (Str × V)} {H : Hp} {s : Shared} {EL : XK} {Q : Bool → Shared → Prop} {E1 : Value → Shared → Prop} (ML : MCal X.prog X.w X.K X.mg X.base CX0 k C "__len__" psL spL) (hr : Room (k + 1) A) (hf : A.frames = X.A.frames) (I : Inv X pins σ H s)
    (ea : H a = some (.ins C dx fs)) (h : spL [.ref a] H (fun v H' => ∃ n : Nat, v = .int n ∧ n ≤ sizeLine ∧ H' = H) EL) (hQ : ∀ b s', Inv X pins σ H s' → Q b s') : wpAny (model X.prog X.w) A (Builtin.List.listLengthHint (.ref a)) Q E1 s := by
  obtain ⟨f, fd, F, hm, b, fi⟩ := ML
  obtain ⟨mA, J, _⟩ := ins_get I.hok ea
  obtain ⟨od, J, _⟩ := J.look
  obtain ⟨mm, hF⟩ := I.fr
  unfold Builtin.List.listLengthHint
  refine wpAny_bind (wpAny_bind (J.type.here ((PySem.W.looks_findIn I.kIn hm.at_).here ?_)))
  refine PySem.W.KFB.if_not rfl ?_
  refine PySem.W.KFB.if_so rfl ?_
  refine wpAny_bind (wpAny_rule ?_)
  refine wpAny_bind (wpAny_attempt ?_)
  refine PySem.W.len_K hF I.ok.mod.kin J hm.at_ hm.fn ?_
  refine wpAny_mono (run_at0 (A := A.in1) (vs := [.ref a]) F hr.in1 hf b I (.cons rfl .nil) h) (fun r s' z => ?_) fun _ _ x => x
  obtain ⟨v, H', I', rv, n, rfl, hn, eH⟩ := z
  subst eH
  obtain ⟨t, rfl⟩ := rv
  have z := hn
  rw [sizeLine_eq] at z
  refine ⟨by omega, ?_⟩
  show wpAny _ _ _ _ _ _
  refine wpAny_bind (wpAny_pure ?_)
  refine PySem.W.KFB.if_not (by show decide (((n : Int)).toNat > sizeLine) = false; simpa using hn) ?_
  exact wpAny_pure (hQ _ _ (I'.tok _))
/-- list(o): the list at q is new, o's __iter__ runs, the iterator is walked to its end and forgotten -/
def rListO (K : PySem.W.Frag) (C : Addr) (spI spL : Sp) : List V → Hp → VK → Prop := fun xs H Q => ∃ a dx fs, xs = [.ref a] ∧ H a = some (.ins C dx fs) ∧ ∀ q, H q = none →
  spI [.ref a] (upd H q (.lst [])) (fun v H1 => ∃ z y zs, v = .ref z ∧ H1 z = some (TItO y z 0) ∧ SqT K H1 y zs ∧ zs.length < sizeLine ∧ H1 q = some (.lst []) ∧ (∃ dx fs, H1 a = some (.ins C dx fs)) ∧
    spL [.ref a] H1 (fun v H' => ∃ n : Nat, v = .int n ∧ n ≤ sizeLine ∧ H' = H1) E0 ∧ Q (.ref q) (upd (ItX.dropH H1 z) q (.lst zs))) E0
theorem call_listO (MI : MCal X.prog X.w X.K X.mg X.base CX0 k C "__iter__" psI spI) (ML : MCal X.prog X.w X.K X.mg X.base CX0 k C "__len__" psL spL) (hr : Room (k + 3) X.A) : CallR X (.type "list") (rListO X.K C spI spL) := by
  intro pins s σ H xs us Q I rv h
  obtain ⟨a, dx, fs, rfl, ha, hq⟩ := h
  obtain ⟨u, rfl, ru⟩ := vals1 rv
  cases ru
  have r1 : Room (k + 2) X.A.in1 := hr.in1
  have r2 : Room (k + 1) X.A.in1.in1 := r1.in1
  have r3 : Room k X.A.in1.in1 := r2.mono (Nat.le_succ k)
  refine callType_codes (Q₁ := fun obj s₁ => obj = .ref s.heap.objs.size ∧ s₁ = { s with heap := s.heap.push { cls := .type "list", data := .seq #[] } }) PySem.F.called_list (PySem.F.typeCall_list_1 _) PySem.F.entry_list_init (code_list_new _ ⟨rfl, rfl⟩) fun obj s₁ h₁ => ?_
  obtain ⟨rfl, rfl⟩ := h₁
  have hS : (s.heap.push { cls := .type "list", data := .seq #[] }).get? s.heap.objs.size = some { cls := .type "list", data := .seq #[] } := Heap.get?_push_size _ rfl
  refine ⟨⟨_, hS, rfl⟩, PySem.F.args_list_init_2 _ _, ?_⟩
  have fr : H s.heap.objs.size = none := I.hok.fresh (Nat.le_refl _)
  have hsp := hq _ fr
  have I1 : Inv X pins σ (upd H s.heap.objs.size (.lst [])) { s with heap := s.heap.push { cls := .type "list", data := .seq #[] } } := I.lnew (its := []) (t' := s.toks) .nil (Nat.zero_le _)
  show wpAny _ _ (do let old ← Builtin.List.listItems (.ref s.heap.objs.size); Builtin.List.listUpdate (.ref s.heap.objs.size) (fun _ => #[]); letGo old.toList.reverse; Builtin.List.listExtendWith (.ref s.heap.objs.size) (.ref a) .none) _ _ _
  refine wpAny_bind ?_
  unfold Builtin.List.listItems
  refine wpAny_bind (wpAny_seqItems hS rfl (wpAny_pure ?_))
  show wpAny _ _ (updateSeq s.heap.objs.size (fun _ => #[]) >>= fun _ => letGo (#[] : Array Value).toList.reverse >>= fun _ => Builtin.List.listExtendWith (.ref s.heap.objs.size) (.ref a) .none) _ _ _
  refine wpAny_bind (wpAny_updateSeq hS rfl ?_)
  have I2 := I1.lset (f := fun _ => #[]) (its := []) (its' := []) (ys := []) (t' := s.toks) upd_same hS rfl .nil (Nat.zero_le _)
  rw [upd_upd] at I2
  refine wpAny_bind (wpAny_letGo ?_)
  have ha2 : upd H s.heap.objs.size (.lst []) a = some (.ins C dx fs) := by rw [upd_ne (ne_of_none ha fr)]; exact ha
  generalize s.heap.objs.size = q at *
  have hne : q ≠ a := ne_of (upd_same (H := H) (o := .lst [])) ha2 (fun z => nomatch z)
  obtain ⟨fI, fdI, FI, hmI, bI, fiI⟩ := MI
  obtain ⟨mA, J, _⟩ := ins_get I2.hok ha2
  obtain ⟨od, J, _⟩ := J.look
  obtain ⟨m0, hF⟩ := I2.fr
  unfold Builtin.List.listExtendWith
  refine wpAny_bind (J.type.here ?_)
  have h1 : Builtin.List.listSameRef (.ref q) (.ref a) = false := by simp [Builtin.List.listSameRef, hne]
  have h2 : (Value.ref C == Value.type "list") = false := rfl
  have h3 : (Value.ref C == Value.type "tuple") = false := rfl
  simp only [h1, h2, h3, Bool.or_false, Bool.false_eq_true, if_false]
  refine wpAny_bind (PySem.W.owit_iter hF I2.ok.mod.kin J hmI.at_ hmI.fn ?_)
  refine wpAny_mono (run_at0 (A := X.A.in1.in1) (vs := [.ref a]) FI r3 rfl bI I2 (.cons rfl .nil) hsp) (fun r s' zz => ?_) fun _ _ x => x
  obtain ⟨v, H1, I3, rv3, z, y, zs, rfl, ez, ey, hl, eq_, ⟨dx', fs', ea⟩, hL, q3⟩ := zz
  cases rv3
  have hz := (I3.hok z _ ez).1
  unfold PySem.W.OwitIt
  refine wpAny_specialOf hz.typeIs PySem.F.slot_tuple_iterator_next.lookup ?_
  show wpAny _ _ _ _ _ _
  refine wpAny_bind (wpAny_holding (hint_own ML r2 rfl I3 ea hL fun b s4 I4 => ?_))
  have nq : q ≠ z := ne_of eq_ ez (fun w => nomatch w)
  have loop : ∀ s5, Inv X pins σ H1 s5 → codeAny (model X.prog X.w) X.A.in1 (.builtin "list.extend.loop" ⟨[.ref q, .ref z, .none], []⟩) (wants (fun r s₂ => r = .none ∧ EP X pins σ Q (.ref q) s₂) X.xe) s5 := fun s5 I5 => by
    refine ext_tup (A1 := X.A.in1) hr.hd nq hl zs.length 0 H1 s5 (by omega) (Nat.zero_le _) I5 ez ey (by rw [eq_]; rfl) fun H' s6 g1 g2 g3 I6 => ?_
    have I7 := ItX.inv_drop I6 g2
    have eH : ItX.dropH H' z = upd (ItX.dropH H1 z) q (.lst zs) := by
      funext b
      by_cases bz : b = z
      · rw [bz, ItX.dropH_same, upd_ne (Ne.symm nq), ItX.dropH_same]
      · rw [ItX.dropH_ne bz]
        by_cases bq : b = q
        · rw [bq, g3, upd_same]
        · rw [upd_ne bq, ItX.dropH_ne bz, g1 b bz bq]
    rw [eH] at I7
    exact ⟨rfl, .ref q, _, I7, rfl, q3⟩
  obtain ⟨w1, its, kk, r4, hl4, e4⟩ := I4.lstM eq_
  cases r4
  refine wpAny_ite_split (fun _ => ?_) (fun _ => wpAny_pure ⟨plainId_quiet PySem.F.plain_extend_loop _, loop s4 I4⟩)
  refine wpAny_bind (wpAny_rule (wpAny_bind ?_))
  show wpAny _ _ (updateSeq q (·.push .none) >>= fun _ => updateSeq q (·.pop)) _ _ _
  refine wpAny_bind (wpAny_updateSeq e4 rfl ?_)
  have I5 := I4.lset (f := (·.push Value.none)) (its' := [Value.none]) (ys := [.non]) (t' := s4.toks) eq_ e4 (by simp) (.cons rfl .nil) (by rw [List.length_singleton, sizeLine_eq]; decide)
  obtain ⟨w2, its5, k5, r5, hl5, e5⟩ := I5.lstM upd_same
  obtain ⟨u5, rfl, ru5⟩ := r5.one
  refine wpAny_updateSeq e5 rfl ?_ (by show 1 ≤ sizeLine; rw [sizeLine_eq]; decide) (by show 0 ≤ sizeLine + 1; exact Nat.zero_le _)
  refine wpAny_pure ⟨plainId_quiet PySem.F.plain_extend_loop _, loop _ ?_⟩
  have I6 := I5.lset (f := (·.pop)) (its := [u5]) (its' := []) (ys := []) (t' := s4.toks) upd_same e5 (by rfl) .nil (Nat.zero_le _)
  rw [upd_upd] at I6
  have hH : upd H1 q (.lst []) = H1 := by
    funext b
    by_cases hb : b = q
    · rw [hb, upd_same, eq_]
    · rw [upd_ne hb]
  rw [hH] at I6
  exact I6
end
end Ov

set_option Elab.async false
set_option linter.all false
set_option maxRecDepth 100000
set_option maxHeartbeats 2000000
namespace Ov
open PySem PySem.Spec PyProof.Rows L2
/-! ### comparisons and operators of own objects -/
section
variable {X : Cx} {CX : CXT} {k : Nat} {C : Addr} {ps : List Str} {sp : Sp} {E : XK}
def rCmpO (C : Addr) (sp : Sp) (E : XK) : R2 := fun x y H Q => ∃ a dx fs b dy gs, x = .ref a ∧ y = .ref b ∧ H a = some (.ins C dx fs) ∧ H b = some (.ins C dy gs) ∧ sp [.ref a, .ref b] H (fun v H' => (∃ t, v = .bl t) ∧ Q v H') E
theorem back_of {pins : List (Addr × Obj)} {σ : L2.St} {s' : Shared} {Q : VK} {r : Value} (z : EP X pins σ (fun v H' => (∃ t, v = .bl t) ∧ Q v H') r s') : PySem.W.CmpBack (EP X pins σ Q) r s' := by
  obtain ⟨v, H', I', rv, ⟨t, rfl⟩, q⟩ := z
  obtain rfl : r = Value.bool t := rv
  exact ⟨.bl t, H', I', rfl, q⟩
theorem rich_own {op : CmpOp} {m : Str} (em : (cmpInfo op).2.1 = m) (M : MCal X.prog X.w X.K X.mg X.base CX k C m ps sp) (hr : Room k X.A) (hx : Passes CX X E) {pins : List (Addr × Obj)} {s : Shared} {σ : L2.St} {H : Hp} {x y : V} {v u : Value} {Q : VK} (I : Inv X pins σ H s) (rx : RelV x v) (ry : RelV y u) (h : rCmpO C sp E x y H Q) :
    wpAny (model X.prog X.w) X.A (richCompare op v u) (EP X pins σ Q) X.xe s := by
  obtain ⟨a, dx, fs, b, dy, gs, rfl, rfl, ha, hb, h⟩ := h
  obtain rfl : v = Value.ref a := rx
  obtain rfl : u = Value.ref b := ry
  obtain ⟨f, fd, F, hm, bd, fi⟩ := M
  obtain ⟨mA, J, _⟩ := ins_get I.hok ha
  obtain ⟨od, J, _⟩ := J.look
  obtain ⟨mB, J2, _⟩ := ins_get I.hok hb
  obtain ⟨od2, J2, _⟩ := J2.look
  obtain ⟨mm, hF⟩ := I.fr
  refine PySem.W.cmp_K (op := op) (tb := .ref C) hr.units0 hF I.ok.mod.kin J J2.type (by simp [PySem.W.notFirst]) (by rw [em]; exact hm.at_) hm.fn ?_
  exact wpAny_mono (run_atS (A := X.A) (vs := [.ref a, .ref b]) F hr rfl bd (pAtP hx) I (.cons rfl (.cons rfl .nil)) h) (fun r s' z => back_of z) fun _ _ x => x
theorem op_eqO (M : MCal X.prog X.w X.K X.mg X.base CX k C "__eq__" ps sp) (hr : Room k X.A) (hx : Passes CX X E) : OpR X (compareOp .Eq) (rCmpO C sp E) := fun pins s σ H x y v u Q I rx ry h => rich_own (op := .Eq) rfl M hr hx I rx ry h
theorem op_ltO (M : MCal X.prog X.w X.K X.mg X.base CX k C "__lt__" ps sp) (hr : Room k X.A) (hx : Passes CX X E) : OpR X (compareOp .Lt) (rCmpO C sp E) := fun pins s σ H x y v u Q I rx ry h => rich_own (op := .Lt) rfl M hr hx I rx ry h
theorem op_leO (M : MCal X.prog X.w X.K X.mg X.base CX k C "__le__" ps sp) (hr : Room k X.A) (hx : Passes CX X E) : OpR X (compareOp .LtE) (rCmpO C sp E) := fun pins s σ H x y v u Q I rx ry h => rich_own (op := .LtE) rfl M hr hx I rx ry h
theorem op_gtO (M : MCal X.prog X.w X.K X.mg X.base CX k C "__gt__" ps sp) (hr : Room k X.A) (hx : Passes CX X E) : OpR X (compareOp .Gt) (rCmpO C sp E) := fun pins s σ H x y v u Q I rx ry h => rich_own (op := .Gt) rfl M hr hx I rx ry h
theorem op_geO (M : MCal X.prog X.w X.K X.mg X.base CX k C "__ge__" ps sp) (hr : Room k X.A) (hx : Passes CX X E) : OpR X (compareOp .GtE) (rCmpO C sp E) := fun pins s σ H x y v u Q I rx ry h => rich_own (op := .GtE) rfl M hr hx I rx ry h
/-- a + b of two own objects of one class -/
def rBinO (C : Addr) (sp : Sp) (E : XK) : R2 := fun x y H Q => ∃ a dx fs b dy gs, x = .ref a ∧ y = .ref b ∧ H a = some (.ins C dx fs) ∧ H b = some (.ins C dy gs) ∧ sp [.ref a, .ref b] H (fun v H' => (∃ c, v = .ref c) ∧ Q v H') E
theorem op_binO {op : Operator} {m : Str} (em : PySem.dunder op.info.2 = m) (hc : PySem.W.selfFirst X.K C = true) (M : MCal X.prog X.w X.K X.mg X.base CX k C m ps sp) (hr : Room k X.A) (hx : Passes CX X E) : OpR X (binaryOp op) (rBinO C sp E) := by
  intro pins s σ H x y v u Q I rx ry h
  obtain ⟨a, dx, fs, b, dy, gs, rfl, rfl, ha, hb, h⟩ := h
  obtain rfl : v = Value.ref a := rx
  obtain rfl : u = Value.ref b := ry
  obtain ⟨f, fd, F, hm, bd, fi⟩ := M
  obtain ⟨mA, J, _⟩ := ins_get I.hok ha
  obtain ⟨od, J, _⟩ := J.look
  obtain ⟨mB, J2, _⟩ := ins_get I.hok hb
  obtain ⟨od2, J2, _⟩ := J2.look
  obtain ⟨mm, hF⟩ := I.fr
  refine PySem.W.binop_K (op := op) hF I.ok.mod.kin J J2.type hc (by rw [em]; exact hm.at_) hm.fn ?_
  refine wpAny_mono (run_atS (A := X.A) (vs := [.ref a, .ref b]) F hr rfl bd (pAtP hx) I (.cons rfl (.cons rfl .nil)) h) (fun r s' z => ?_) fun _ _ x => x
  obtain ⟨v, H', I', rv, ⟨c, rfl⟩, q⟩ := z
  obtain rfl : r = Value.ref c := rv
  exact ⟨.ref c, H', I', rfl, q⟩
end
/-! ### isinstance with own classes -/
/-- what a class must say, so that isinstance asks its instances rightly -/
structure InsC (K : PySem.W.Frag) (C : Addr) : Prop where
  cl : Cls K C
  ha : PySem.W.findIn K (.ref C) "__class__" = some (some (.builtin "object.__class__"))
  hn : PySem.W.specialIn K (.builtin "object.__class__") "__get__" = some (some (.builtin "getset_descriptor.__get__"))
  ht : PySem.W.takesIn K (.builtin "object.__class__") = some true
  hm : PySem.W.mroIn K C (.type "object") = some true
/-- isinstance(x, C) of an instance of C -/
def rIsO (K : PySem.W.Frag) : List V → Hp → VK → Prop := fun xs H Q => ∃ a C D dx fs b, xs = [.ref a, .ref D] ∧ H a = some (.ins C dx fs) ∧ InsC K C ∧ PySem.W.kitOne K (.ref C) (.ref D) = some b ∧ Q (.bl b) H
theorem call_isO {X : Cx} : CallR X (.builtin "isinstance") (rIsO X.K) := by
  intro pins s σ H xs us Q I r h
  obtain ⟨a, C, D, dx, fs, b, rfl, ha, c, kt, q⟩ := h
  exact call_isi pins s σ H _ us Q I r ⟨_, _, _, _, b, rfl, .own D, .base (.ins ha c.cl c.ha c.hn c.ht c.hm), kt, q⟩
def cIsiO (K : PySem.W.Frag) : List V → Hp → VK → Prop := fun xs H Q => cIsi K xs H Q ∨ rIsO K xs H Q
theorem call_cIsiO {X : Cx} : CallR X (.builtin "isinstance") (cIsiO X.K) := CallR.or call_cIsi call_isO
/-! ### defs that are called within an except suite with the exception, and raise nothing -/
abbrev SpX := Addr → Value → Option Addr → Sp
structure FnX (P : Program) (w : World) (K : PySem.W.Frag) (mg : Str → Option Value) (base : Heap) (k : Nat) (f : Addr) (fd : FuncData) (ps : List Str) (sp : SpX) : Prop where
  len : ∀ a cls d vs H Q E, sp a cls d vs H Q E → vs.length = ps.length
  run : ∀ (A : Around) (outer : List Env) (s : Shared) (H : Hp) (args : Args) (us : List Value) (vs : List V) (Q : VK) (E : XK) (a : Addr) (oe : Obj) (cls : Value) (d : Option Addr), L2H.RoomH k A → L2H.PinOk outer H s (a, oe) → Zc cls d oe → (∃ ws, oe.data = .fields ws) →
    Env0 P w K mg base A outer s H → BindsTo s fd args (ps.zip us) → Vals vs us → sp a cls d vs H Q E → codeAny (model P w) A (.call (.ref f) args) (CR CX0 outer P w H s Q E) s
def CalX (P : Program) (w : World) (K : PySem.W.Frag) (mg : Str → Option Value) (base : Heap) (k : Nat) (x : Str) (ps : List Str) (sp : SpX) : Prop :=
  ∃ (f : Addr) (fd : FuncData), FnX P w K mg base k f fd ps sp ∧ mg x = some (.ref f) ∧ PySem.W.keepIn K (.ref f) = true ∧ Binds K fd ps []
theorem Has.okH {P : Program} {w : World} {K : PySem.W.Frag} {mg : Str → Option Value} {base : Heap} {x : Str} {st : Stmt} {N ps : List Str} {k : Nat} {sp : SpX} (h : Has K mg x st ps) (S : FnScope N ps (defScope st)) (len : ∀ a cls d vs H Q E, sp a cls d vs H Q E → vs.length = ps.length)
    (hbody : ∀ (f : Addr) (cdv : Value) (A : Around) (outer : List Env) (s : Shared) (H : Hp) (vs : List V) (Q : VK) (E : XK) (a : Addr) (oe : Obj) (cls : Value) (d : Option Addr), L2H.RoomH k (A.deeper (envOfC x (defScope st) s.heap.objs.size f cdv)) → Zc cls d oe → (∃ ws, oe.data = .fields ws) → sp a cls d vs H Q E →
      ∃ t, PSs (L2H.cxH CX0 P w K mg base N x (defScope st) f cdv A outer s H E (a, oe)) (defBody st) t ∧ t { nx := fun _ H' => Q .non H', rt := Q } (start N vs) H) : CalX P w K mg base (k + 1) x ps sp := by
  obtain ⟨f, fd, F, m, b⟩ := h
  refine ⟨f, fd, ⟨len, fun A outer s H args us vs Q E a oe cls d hr pin hz hf e0 hb r hsp => ?_⟩, m, F.kp, .all b⟩
  obtain ⟨oc, od, kV, doc, pm, an, cdv, ct, osl, rfl, lk, hcd⟩ := F.ex
  have hl := len _ _ _ _ _ _ _ hsp
  have KX : K.In s.heap := e0.mod.kin.keeps fun b o e => (e0.bs b o e).1
  have lim : s.heap.NoLimit := e0.mod.nolimit.keeps fun b o e => (e0.bs b o e).1
  have hkind : ∀ y ∈ ps.zip us, (defScope st).names.lookup y.1 = some .local ∨ ((defScope st).names.lookup y.1 = some .cell ∧ ((cellsFrom (s.heap.objs.size + 1) (defScope st).names []).lookup y.1).isSome = true) := fun ⟨n, v⟩ hy => by
    rcases S.par n (List.of_mem_zip hy).1 with q | q
    · exact Or.inl q
    · exact Or.inr ⟨q, PySem.W.cellsFrom_some _ _ _ (.inl q)⟩
  refine codeAny_call_function hr.depth (KX _ _ lk) rfl S.co S.gen rfl (PySem.W.codeRec_of KX hcd) (hb _ _ _ _ ?_)
  refine wpAny_newFunctionEnv_cells S.kind hkind fun env he s1 x1 => ?_
  subst he
  refine ⟨lim.keeps x1.toInCall.keep, codeAny_func ?_⟩
  obtain ⟨t, ht, hq⟩ := hbody f cdv A outer s H vs Q E a oe cls d (hr.deeper _) hz hf hsp
  have I : Inv (L2H.cxH CX0 P w K mg base N x (defScope st) f cdv A outer s H E (a, oe)) [] (L2.start N vs) H s1 := L2H.inv_startH S pin e0 hl r x1
  refine wpAny_mono (ht.run [] s1 (L2.start N vs) H _ I hq) (fun fl s' hs => ?_) fun e s' hs => hs
  have fin : ∀ {σ' : L2.St} {H' : Hp} {v : V} {u : Value}, Inv (L2H.cxH CX0 P w K mg base N x (defScope st) f cdv A outer s H E (a, oe)) [] σ' H' s' → RelV v u → Q v H' → CE outer P w H s Q u s' :=
    fun {σ' H' v u} J rv q => ⟨v, H', J.os, J.bare, J.base, J.hok, rv, q⟩
  cases fl with
  | ret u =>
    obtain ⟨v, σ', H', J, rv, q⟩ := hs
    exact fin J rv q
  | next =>
    obtain ⟨σ', H', J, q⟩ := hs
    exact fin (v := V.non) (u := Value.none) J rfl q
  | brk =>
    obtain ⟨_, _, _, q⟩ := hs
    exact False.elim q
  | cont =>
    obtain ⟨_, _, _, q⟩ := hs
    exact False.elim q
/-- such a call within the suite -/
def tCallX (sp : SpX) (a : Addr) (cls : Value) (d : Option Addr) (t : TA) : TE := fun σ H Q => t σ H fun vs H1 => sp a cls d vs H1 Q E0
theorem pe_callX {X : Cx} {k : Nat} {x : Str} {ps : List Str} {sp : SpX} {a : Addr} {oe : Obj} {cls : Value} {d : Option Addr} {pn : List (Addr × Obj)} {q pos : Pos} {e : Expr} {es : List Expr} {t : TA} (c : CalX X.prog X.w X.K X.mg X.base k x ps sp) (hr : Room k X.A)
    (hz : Zc cls d oe) (hf : ∃ ws, oe.data = .fields ws) (hg : Gl (X.suite a ((a, oe) :: pn)) x) (ha : PA (X.suite a ((a, oe) :: pn)) (e :: es) t) (hdb : (x == ("__debug__" : Str)) = false := by decide)
    (he : starEach (e :: es) X.env = (false, eval e X.env) :: starEach es X.env := by rfl) (hpl : (backTo pos (starEach es X.env)).any (·.1) = false := by rfl) : PE (X.suite a ((a, oe) :: pn)) (.Call (.Name x q) (e :: es) [] pos) (tCallX sp a cls d t) := by
  obtain ⟨f, fd, F, m, kp, b⟩ := c
  refine ⟨fun pins s σ H Q I h => wpAny_Call_Name_kw (ld_glob I hg m ?_ hdb)⟩
  refine PySem.W.callWith_K (h₀ := X.base) I.ok.mod.kin kp (thn (ha.run pos pins s σ H _ I h) fun us s1 ⟨vs, H1, I1, r, z⟩ => ⟨I1.kIn, ?_⟩) he hpl
  have hl : us.length = ps.length := by rw [← r.length]; exact F.len _ _ _ _ _ _ _ z
  have bd := b s1 us I1.kIn (by simpa using hl)
  have P1 := I1.pin (a, oe) (List.mem_append_left _ List.mem_cons_self)
  have hpin : L2H.PinOk (X.suite a ((a, oe) :: pn)).stack H1 s1 (a, oe) := ⟨P1.1, P1.2.1, fun hm => (List.mem_cons.mp (I1.stkSub a hm)).elim P1.2.2.1 P1.2.2.2.1, P1.2.2.2.2⟩
  refine wpAny_call (codeAny_mono (F.run (X.suite a ((a, oe) :: pn)).A _ s1 H1 ⟨us, []⟩ us vs Q E0 a oe cls d ⟨hr.dp, hr.un⟩ hpin hz hf I1.env0 (by simpa using bd) r z) fun r s' y => ?_)
  cases r with
  | error e => exact y.elim
  | ok fl =>
    cases fl with
    | ret u => exact I1.after y
    | next => exact y.elim
    | brk => exact y.elim
    | cont => exact y.elim
/-- isinstance(e, c) in such a def -/
theorem call_isP {X : Cx} {a : Addr} {cls : Value} {d : Option Addr} {oe : Obj} (hp : (a, oe) ∈ X.pn) (hz : Zc cls d oe) (hf : ∃ vs, oe.data = .fields vs) : CallR X (.builtin "isinstance") (rIsX X.K a cls d) := by
  intro pins s σ H xs us Q I r h
  obtain ⟨D, dd, fs, rfl, rfl, hdd, C, h⟩ := h
  obtain ⟨ha, _⟩ := I.pin (a, oe) (List.mem_append_left _ hp)
  obtain ⟨vs, hd⟩ := hf
  obtain ⟨mA, hns, _⟩ := (show ObjOk X.prog X.w H s.heap dd (.xd fs) from I.hok dd _ hdd)
  obtain ⟨od, ho, _⟩ := lookIn_ns hns
  have J : PySem.W.InstAt s.heap a oe D (some od) := ⟨ha, hz.1, by unfold PySem.W.notCls; rw [hd] <;> rfl, by rw [hz.2]; exact ho⟩
  have hcl : (PySem.W.clsIn X.K D).isSome = true := by
    have z := C.hd
    unfold PySem.W.hasDictIn at z
    obtain ⟨cd, hcd, _⟩ := PySem.W.any_some z
    rw [hcd] <;> rfl
  have Z := PySem.W.kitx_exc (x := a) (ox := oe) (od := some od) hcl C.hg C.hk C.hs C.ha C.hn C.ht C.hm
  rcases h with ⟨c, u, b, rfl, hc, e, q⟩ | ⟨tp, cs, ws, b, rfl, hT, k, e, q⟩
  · obtain ⟨u1, u2, rfl, r1, r2⟩ := vals2 r
    have e1 : u1 = .ref a := r1
    subst e1
    have e2 := hc.eq r2
    subst e2
    exact PySem.W.kia_one Z I.kIn J e (fun z => nomatch z) fun tk => ⟨.bl b, H, I.tok tk, rfl, q⟩
  · obtain ⟨u1, u2, rfl, r1, r2⟩ := vals2 r
    have e1 : u1 = .ref a := r1
    subst e1
    cases (show u2 = Value.ref tp from r2)
    obtain ⟨_, its, rv, o, h1, h2, n, h3⟩ := (show ObjOk X.prog X.w H s.heap tp (.tup cs) from I.hok tp _ hT)
    have e3 := ClsV.all k rv
    subst e3
    obtain ⟨oc, od', dt, sl⟩ := o
    simp only at h2 h3
    subst h2 h3
    exact PySem.W.kia_tup Z I.kIn J h1 e (fun z => nomatch z) fun tk => ⟨.bl b, H, I.tok tk, rfl, q⟩
theorem passN {X : Cx} : Passes (L2.CX X.prog X.w) X E0 := fun pins σ H s e s' I c => pAtN (σ := σ) pins H s e s' I c
/-! ### texts and numbers -/
def cStr : List V → Hp → VK → Prop := fun xs H Q => ∃ i, xs = [.int i] ∧ i.natAbs.log2 < 1920 ∧ Q (.str (toString i)) H
theorem call_cStr {X : Cx} : CallR X (.type "str") cStr := call_str_int
def cIntX : List V → Hp → VK → Prop := fun xs H Q => cInt xs H Q ∨ ∃ a n, xs = [.str a] ∧ PySem.intText? a = some n ∧ a.length ≤ 640 ∧ Q (.int n) H
theorem call_cIntX {X : Cx} : CallR X (.type "int") cIntX := CallR.or call_cInt call_int_str
def rFind : V → List V → Hp → VK → Prop := fun x xs H Q => ∃ a b, x = .str a ∧ xs = [.str b] ∧ Q (.int (Txt.find a b)) H
theorem mt_oFind {X : Cx} : MtR X "str.find" rFind := mt_find
def rJoin (K : PySem.W.Frag) : V → List V → Hp → VK → Prop := fun x xs H Q => ∃ a p, ∃ ys : List Str, x = .str a ∧ xs = [.ref p] ∧ (SqL K H p (ys.map V.str) ∨ SqT K H p (ys.map V.str)) ∧ (ys.map (·.length)).sum + ys.length * a.length ≤ 16777216 ∧ Q (.str (Txt.join a ys)) H
theorem mt_oJoin {X : Cx} : MtR X "str.join" (rJoin X.K) := mt_join
theorem call_listO2 {X : Cx} {C : Addr} {j1 j2 : Nat} {psI psL : List Str} {spI spL : Sp} (MI : MCal X.prog X.w X.K X.mg X.base CX0 j1 C "__iter__" psI spI) (ML : MCal X.prog X.w X.K X.mg X.base CX0 j2 C "__len__" psL spL) (hr : Room (j1 + j2 + 3) X.A) : CallR X (.type "list") (rListO X.K C spI spL) :=
  call_listO (MI.mono (Nat.le_add_right j1 j2)) (ML.mono (Nat.le_add_left j2 j1)) hr
theorem khas_mk {K : PySem.W.Frag} {C : Addr} {m q : Str} {st : Stmt} {ps : List Str} {p f : Addr} {oc : Value} {od an : Option Addr} {osl : Array (Option Value)} {kV doc pm cdv ct : Value} {rest : List Value}
    (a : PySem.W.findCls K (.ref C) (.type "type") m = some (.get (.builtin "classmethod.__get__") (.ref p) .none (.ref C))) (rc : PySem.W.recIn K p "classmethod" = some (.ref f :: rest)) (l : K.lookup f = some ⟨oc, od, .func (PySem.W.fnOf m q (defArgs st) (defBody st) (defScope st) .none kV doc pm an cdv ct), osl⟩)
    (c : PySem.W.codeIn K cdv q = true) (k : PySem.W.keepIn K (.ref f) = true)
    (hb : ∀ (kV doc pm : Value) (an : Option Addr) (cdv ct : Value) (us : List Value), us.length = ps.length → bindArgs (PySem.W.fnOf m q (defArgs st) (defBody st) (defScope st) .none kV doc pm an cdv ct) ⟨us, []⟩ = pure (ps.zip us)) : KHas K C m q st ps :=
  ⟨p, f, _, fun_mk l c k, ⟨a, ⟨rest, rc⟩, fn_in l⟩, hb kV doc pm an cdv ct⟩
/-! ### steps -/
section
variable {σ : L2.St} {H : Hp} {D : Ends} {te ta tb : TE} {al : TA} {Q : VK} {C a : Addr} {sp : Sp} {E : L2.St → XK} {m : Str} {i : Nat} {K : PySem.W.Frag} {g : TG} {t : TS}
theorem q_makeS (h : al σ H fun vs H1 => ∀ x dx, H1 x = none → H1 dx = none → dx ≠ x → sp (.ref x :: vs) (upd (upd H1 dx (.own x)) x (.ins C dx [])) (fun v H2 => v = .non ∧ Q (.ref x) H2) (E σ)) : tMakeS C sp E al σ H Q := h
theorem q_makeV (hs : σ[i]? = some (some (.ref C))) (h : tMakeS C sp E al σ H Q) : tMakeV i C sp E al σ H Q := ⟨hs, h⟩
theorem q_methS (h : ta σ H fun x H1 => ∃ a dx fs, x = .ref a ∧ H1 a = some (.ins C dx fs) ∧ fs.lookup m = none ∧ al σ H1 fun vs H2 => sp (x :: vs) H2 Q (E σ)) : tMethS C m sp E ta al σ H Q := h
theorem q_kmeth (h : ta σ H fun x H1 => x = .ref C ∧ al σ H1 fun vs H2 => sp (.ref C :: vs) H2 Q (E σ)) : tKMeth C sp E ta al σ H Q := h
theorem q_m1 {r : V → List V → Hp → VK → Prop} (h : ta σ H fun x H1 => (∃ a, x = .str a) ∧ tb σ H1 fun y H2 => r x [y] H2 Q) : tM1 r ta tb σ H Q := h
theorem q_isO {x D : Addr} {dx : Addr} {fs : List (Str × V)} (b : Bool) (hx : H x = some (.ins C dx fs)) (c : InsC K C) (kt : PySem.W.kitOne K (.ref C) (.ref D) = some b) (h : Q (.bl b) H) : cIsiO K [.ref x, .ref D] H Q := .inr ⟨x, C, D, dx, fs, b, rfl, hx, c, kt, h⟩
theorem q_isiO {x : V} {n : String} (b : Bool) (hn : n ∈ tyNames) (ht : isTy x H n b) (h : Q (.bl b) H) : cIsiO K [x, .ty n] H Q := .inl ⟨x, n, b, rfl, hn, ht, h⟩
/-- for i, x in enumerate(xs), xs a list (b) or a tuple: the turn's pair is new at T -/
def SqB (K : PySem.W.Frag) (b : Bool) (H : Hp) (a : Addr) (xs : List V) : Prop := if b = true then SqL K H a xs else SqT K H a xs
theorem q_forE {b : Bool} {xs : List V} (Pv : Nat → L2.St → Hp → Prop) (e : al σ H fun vs H1 => vs = [.ref a] ∧ SqB K b H1 a xs ∧ Pv 0 σ H1) (hl : ∀ i σ H, i ≤ xs.length → Pv i σ H → SqB K b H a xs)
    (hs : ∀ i x σ H T, xs[i]? = some x → Pv i σ H → H T = none → g (.ref T) σ (upd H T (.tup [.int (i : Nat), x])) fun σ2 H2 => t { D with nx := Pv (i + 1), ct := Pv (i + 1), bk := D.nx } σ2 H2) (hd : ∀ σ H, Pv xs.length σ H → D.nx σ H)
    (mono : ∀ {Q1 Q2 : List V → Hp → Prop}, (∀ vs H1, Q1 vs H1 → Q2 vs H1) → al σ H Q1 → al σ H Q2) : tFor (iEnumA K al) g t D σ H := by
  refine mono (fun vs H1 z => ?_) e
  obtain ⟨rfl, hq, p0⟩ := z
  refine ⟨a, xs, rfl, ?_⟩
  cases b with
  | true =>
    refine .inl ⟨hq, for_it walk_enum Pv p0 (fun i σ H hi p => hl i σ H hi p) (fun i x σ H H' hi p y => ?_) hd⟩
    obtain ⟨T, x1, y1, rfl, hT, rfl, e1, e2⟩ := y
    cases e1
    exact hs i y1 σ H T e2 p hT
  | false =>
    refine .inr ⟨hq, for_it walk_enumT Pv p0 (fun i σ H hi p => hl i σ H hi p) (fun i x σ H H' hi p y => ?_) hd⟩
    obtain ⟨T, x1, y1, rfl, hT, rfl, e1, e2⟩ := y
    cases e1
    exact hs i y1 σ H T e2 p hT
theorem q_forEV {b : Bool} {k : Nat} {xs : List V} (ev : σ[k]? = some (some (.ref a))) (Pv : Nat → L2.St → Hp → Prop) (h0 : Pv 0 σ H) (hl : ∀ i σ H, i ≤ xs.length → Pv i σ H → SqB K b H a xs)
    (hs : ∀ i x σ H T, xs[i]? = some x → Pv i σ H → H T = none → g (.ref T) σ (upd H T (.tup [.int (i : Nat), x])) fun σ2 H2 => t { D with nx := Pv (i + 1), ct := Pv (i + 1), bk := D.nx } σ2 H2) (hd : ∀ σ H, Pv xs.length σ H → D.nx σ H) : tFor (iEnumA K (tCons (tVar k) tNil)) g t D σ H :=
  q_forE Pv ⟨_, ev, rfl, hl 0 _ _ (Nat.zero_le _) h0, h0⟩ hl hs hd fun {Q1 Q2} f z => by
    obtain ⟨v, hv, q⟩ := z
    exact ⟨v, hv, f _ _ q⟩
end
end Ov

set_option Elab.async false
set_option linter.all false
set_option maxRecDepth 100000
set_option maxHeartbeats 2000000
namespace Ov
open PySem PySem.Spec PyProof.Rows L2
/-! ### != of own objects that have == alone -/
theorem ifBound_B {M : Model} {A : Around} {E : Value → Shared → Prop} {s : Shared} {K : PySem.W.Frag} {x C : Addr} {ox : Obj} {od : Option Obj} {name : Str} {id : String} {args : List Value} {Q : Option Value → Shared → Prop} (X : K.In s.heap) (I : PySem.W.InstAt s.heap x ox C od)
    (hs : PySem.W.findIn K (.ref C) name = some (some (.builtin id))) (hb : ∀ v : Value, bindSpecial (.builtin id) v = pure (.builtin id, [v])) (h : wpAny M A (call (.builtin id) (.ref x :: args)) (fun v => Q (some v)) E s) : wpAny M A (callSpecialIfBound? (.ref x) name args) Q E s := by
  simp only [callSpecialIfBound?, bindSpecialIfBound?]
  have looked := PySem.W.looks_findIn (M := M) X hs
  refine wpAny_holding (wpAny_bind (wpAny_bind (wpAny_bind (I.type.here (looked.here ?_)))))
  have fin : wpAny M A (call (.builtin id) ([.ref x] ++ args) >>= fun v => pure (some v)) Q E s := wpAny_bind (wpAny_mono h (fun v s' z => wpAny_pure z) fun _ _ z => z)
  refine wpAny_bind (wpAny_askSetting (wpAny_ite ?_))
  rw [hb]
  split
  · exact wpAny_bind (wpAny_pure (wpAny_pure (by exact fin)))
  · exact wpAny_tryCatch (wpAny_bind (wpAny_pure (wpAny_pure (by exact fin))))
def rNeO (C : Addr) (sp : Sp) (E : XK) : R2 := fun x y H Q => ∃ a dx fs b dy gs, x = .ref a ∧ y = .ref b ∧ H a = some (.ins C dx fs) ∧ H b = some (.ins C dy gs) ∧ sp [.ref a, .ref b] H (fun v H' => ∃ t, v = .bl t ∧ Q (.bl (!t)) H') E
theorem op_neO {X : Cx} {CX : CXT} {k : Nat} {C : Addr} {ps : List Str} {sp : Sp} {E : XK} (hn : PySem.W.findIn X.K (.ref C) "__ne__" = some (some (.builtin "object.__ne__"))) (hm0 : PySem.W.mroIn X.K C (.type "object") = some true) (M : MCal X.prog X.w X.K X.mg X.base CX k C "__eq__" ps sp) (hr : Room (k + 1) X.A) (hx : Passes CX X E) : OpR X (compareOp .NotEq) (rNeO C sp E) := by
  intro pins s σ H x y v u Q I rx ry h
  obtain ⟨a, dx, fs, b, dy, gs, rfl, rfl, ha, hb, h⟩ := h
  obtain rfl : v = Value.ref a := rx
  obtain rfl : u = Value.ref b := ry
  obtain ⟨f, fd, F, hm, bd, fi⟩ := M
  obtain ⟨mA, J, _⟩ := ins_get I.hok ha
  obtain ⟨od, J, _⟩ := J.look
  obtain ⟨mB, J2, _⟩ := ins_get I.hok hb
  obtain ⟨od2, J2, _⟩ := J2.look
  show wpAny (model X.prog X.w) X.A (richCompare .NotEq (.ref a) (.ref b)) (EP X pins σ Q) X.xe s
  have one : wpAny (model X.prog X.w) X.A (tryCompare (.ref a) (cmpInfo .NotEq).2.1 (.ref b)) (fun r s' => ∃ v, r = some v ∧ EP X pins σ Q v s') X.xe s := by
    unfold tryCompare
    refine wpAny_bind (ifBound_B I.kIn J hn (fun v => PySem.F.slot_object_ne.bind v) ?_)
    refine wpAny_call (codeAny_call_builtin PySem.F.slot_object_ne.plain PySem.F.entry_object_ne ?_)
    refine @PySem.W.check_slot (model X.prog X.w) _ _ s "object.__ne__" "object" "__ne__" (.ref a) [.ref b] [] _ (by decide +kernel) (by decide +kernel) (J.type.andThen (PySem.W.looks_mroIn I.kIn hm0)) (PySem.F.args_object_ne_2 _ _) ?_
    unfold Builtin.«object.__ne__»
    refine wpAny_bind (wpAny_of_eq (a := ((Value.ref a : Value), [Value.ref b])) (by first | rfl | (simp only [slotArgs]; rfl)) ?_)
    refine wpAny_bind (wpAny_cRoomFor (hr.in1).units0 ?_)
    refine wpAny_bind (PySem.W.ifBound_K I.kIn J hm.at_ hm.fn ?_)
    refine wpAny_mono (run_atS (A := X.A.in1) (vs := [.ref a, .ref b]) F hr.in1 rfl bd (pAtP hx) I (.cons rfl (.cons rfl .nil)) h) (fun r s' z => ?_) fun _ _ x => x
    obtain ⟨v, H', I', rv, t, rfl, q⟩ := z
    obtain rfl : r = Value.bool t := rv
    refine wpAny_bind (wpAny_truthy_bool ?_)
    exact wpAny_pure (wpAny_pure ⟨_, rfl, .bl (!t), H', I', rfl, q⟩)
  unfold richCompare
  simp only [oneThing_ref]
  refine wpAny_holding (wpAny_bind (wpAny_cRoomFor hr.units0 ?_))
  refine wpAny_bind (J.type.here (wpAny_bind (J2.type.here ?_)))
  split
  · rename_i q
    simp at q
  · refine wpAny_bind (wpAny_pure ?_)
    simp only [Bool.false_eq_true, if_false]
    refine wpAny_bind (wpAny_mono one (fun r s' z => ?_) fun _ _ e => e)
    obtain ⟨v, rfl, hq⟩ := z
    exact wpAny_pure hq
/-! ### the order of (a length, a tuple of ints) -/
def lexp (p : Int → Int → Bool) (z : Bool) : List Int → List Int → Bool
  | x :: xs, y :: ys => if x = y then lexp p z xs ys else p x y
  | _, _ => z
def kcmp (p : Int → Int → Bool) (z : Bool) (ns ms : List Int) : Bool := if ns.length = ms.length then lexp p z ns ms else p ns.length ms.length
theorem dpK {K : PySem.W.Frag} {H : Hp} : ∀ ns : List Int, DpAll K H (ns.map V.int) (ns.map PyData.int)
  | [] => .nil
  | n :: r => .cons (.int n) (dpK r)
theorem layK : ∀ ns : List Int, PyData.canLayAll0 (ns.map PyData.int) = true
  | [] => rfl
  | n :: r => by
    rw [List.map_cons]
    simp only [PyData.canLayAll0, PyData.canLay0, Bool.true_and]
    exact layK r
theorem depK : ∀ ns : List Int, PyData.depthAll (ns.map PyData.int) ≤ 1
  | [] => by simp [PyData.depthAll]
  | n :: r => by
    rw [List.map_cons]
    have := depK r
    simp only [PyData.depthAll, PyData.depth]
    omega
theorem shapedT (ns : List Int) : SeqAt.shaped (.tuple (ns.map PyData.int)) = true := by
  have h1 := layK ns
  have h2 := depK ns
  unfold SeqAt.shaped
  rw [Bool.and_eq_true]
  refine ⟨?_, decide_eq_true ?_⟩
  · simp only [PyData.canLay0]
    exact h1
  · simp only [PyData.depth]
    omega
theorem eqvAllK : ∀ ns ms : List Int, PyData.eqvAll (ns.map PyData.int) (ms.map PyData.int) = decide (ns = ms)
  | [], [] => by simp [PyData.eqvAll]
  | [], m :: ms => by simp [PyData.eqvAll]
  | n :: ns, [] => by simp [PyData.eqvAll]
  | n :: ns, m :: ms => by
    rw [List.map_cons, List.map_cons, PyData.eqvAll, eqvAllK ns ms]
    by_cases h : n = m
    · subst h
      simp [PyData.eqv]
    · have e : (n == m) = false := by simpa using h
      simp [PyData.eqv, e, h]
theorem eqvK (ns ms : List Int) : PyData.eqv (.tuple (ns.map PyData.int)) (.tuple (ms.map PyData.int)) = decide (ns = ms) := by
  rw [PyData.eqv]
  exact eqvAllK ns ms
theorem lexAt_shift (e r : Nat → Bool) (z : Bool) : ∀ (k i : Nat), Ob.lexAt e r z (i + 1) k = Ob.lexAt (fun j => e (j + 1)) (fun j => r (j + 1)) z i k
  | 0, _ => rfl
  | k + 1, i => by
    rw [Ob.lexAt_succ, Ob.lexAt_succ, lexAt_shift e r z k (i + 1)]
theorem lexAt_eq (p : Int → Int → Bool) (z : Bool) : ∀ ns ms : List Int, ns.length = ms.length → Ob.lexAt (fun j => decide (ns.getD j 0 = ms.getD j 0)) (fun j => p (ns.getD j 0) (ms.getD j 0)) z 0 ns.length = lexp p z ns ms
  | [], [], _ => rfl
  | [], _ :: _, h => by cases h
  | _ :: _, [], h => by cases h
  | n :: ns, m :: ms, h => by
    have ih := lexAt_eq p z ns ms (by simpa using h)
    rw [List.length_cons, Ob.lexAt_succ, lexAt_shift]
    show (if decide (n = m) = true then _ else p n m) = if n = m then _ else _
    by_cases e : n = m
    · rw [if_pos (decide_eq_true e), if_pos e]
      exact ih
    · rw [if_neg (by rw [decide_eq_false e]; exact Bool.false_ne_true), if_neg e]
/-- how the library compares two tuples -/
def TupRule (op : CmpOp) (zz : Nat → Nat → Bool) : Prop := ∀ (A : Around) (s : Shared) (l b : Addr) (items items2 : Array Value) (e r : Nat → Bool), s.heap.IsTuple l items → s.heap.IsTuple b items2 → A.units < cLine →
  (∀ j (h1 : j < items.size) (h2 : j < items2.size), SeqAt.EqAt A.in1 s items[j] items2[j] (e j)) → (∀ j (h1 : j < items.size) (h2 : j < items2.size), e j = false → Ob.RcOp op A.in1 s items[j] items2[j] (r j)) →
  Ob.RcOp op A s (.ref l) (.ref b) (Ob.lexAt e r (zz items.size items2.size) 0 (min items.size items2.size))
section
variable {X : Cx} {pins : List (Addr × Obj)} {σ : L2.St} {H : Hp} {s : Shared} {op : CmpOp} {zz : Nat → Nat → Bool} {p : Int → Int → Bool} {A : Around} {t r : Addr} {ns ms : List Int}
theorem rc_ints (T : TupRule op zz) (N : ∀ (A : Around) (s : Shared) (i j : Int) (t u : Tok), Ob.RcOp op A s (.int i t) (.int j u) (p i j)) (I : Inv X pins σ H s) (ht : H t = some (.tup (ns.map V.int))) (hr : H r = some (.tup (ms.map V.int))) (hu : A.units < cLine) :
    Ob.RcOp op A s (.ref t) (.ref r) (Ob.lexAt (fun j => decide (ns.getD j 0 = ms.getD j 0)) (fun j => p (ns.getD j 0) (ms.getD j 0)) (zz ns.length ms.length) 0 (min ns.length ms.length)) := by
  obtain ⟨its, r1, p1, _⟩ := I.tuple (SqT.of (K := X.K) ht)
  obtain ⟨its2, r2, p2, _⟩ := I.tuple (SqT.of (K := X.K) hr)
  have i1 : IntsAre its ns := Vals.ints r1
  have i2 : IntsAre its2 ms := Vals.ints r2
  have z1 : its.toArray.size = ns.length := by rw [List.size_toArray]; exact i1.length
  have z2 : its2.toArray.size = ms.length := by rw [List.size_toArray]; exact i2.length
  have at1 : ∀ j (h1 : j < its.toArray.size), ∃ t, its.toArray[j] = .int (ns.getD j 0) t := fun j h1 => PyProof.Rows.IntsAre.int_at i1 _ _ (by simp at h1; simp [h1])
  have at2 : ∀ j (h1 : j < its2.toArray.size), ∃ t, its2.toArray[j] = .int (ms.getD j 0) t := fun j h1 => PyProof.Rows.IntsAre.int_at i2 _ _ (by simp at h1; simp [h1])
  have R := T A s t r its.toArray its2.toArray (fun j => decide (ns.getD j 0 = ms.getD j 0)) (fun j => p (ns.getD j 0) (ms.getD j 0)) p1 p2 hu (fun j h1 h2 => by
    obtain ⟨t1, g1⟩ := at1 j h1
    obtain ⟨t2, g2⟩ := at2 j h2
    rw [g1, g2]
    have z : (ns.getD j 0 == ms.getD j 0) = decide (ns.getD j 0 = ms.getD j 0) := by
      by_cases q : ns.getD j 0 = ms.getD j 0
      · rw [decide_eq_true q]; exact beq_iff_eq.mpr q
      · rw [decide_eq_false q]; exact beq_eq_false_iff_ne.mpr q
    rw [← z]
    exact SeqAt.EqAt.int_int _ _ _ _) (fun j h1 h2 _ => by
    obtain ⟨t1, g1⟩ := at1 j h1
    obtain ⟨t2, g2⟩ := at2 j h2
    rw [g1, g2]
    exact N _ _ _ _ _ _)
  rw [z1, z2] at R
  exact R
theorem eq_ints (I : Inv X pins σ H s) (ht : H t = some (.tup (ns.map V.int))) (hr : H r = some (.tup (ms.map V.int))) (hu : A.units + 64 < cLine) : SeqAt.EqAt A s (.ref t) (.ref r) (decide (ns = ms)) := by
  by_cases e : t = r
  · subst e
    rw [ht] at hr
    have e2 : ns.map V.int = ms.map V.int := by
      injection Option.some.inj hr
    have inj : ∀ a b : List Int, a.map V.int = b.map V.int → a = b := fun a => by
      induction a with
      | nil => intro b h; cases b with | nil => rfl | cons _ _ => cases h
      | cons x xs ih =>
        intro b h
        cases b with
        | nil => cases h
        | cons y ys =>
          rw [List.map_cons, List.map_cons] at h
          injection h with h1 h2
          injection h1 with h3
          rw [h3, ih ys h2]
    rw [decide_eq_true (inj ns ms e2)]
    exact SeqAt.EqAt.same _
  · refine SeqAt.EqAt.of_refs e fun prog w E Q q => ?_
    have D1 : Dp X.K H (.ref t) (.tuple (ns.map PyData.int)) := .tup (SqT.of ht) (dpK ns)
    have D2 : Dp X.K H (.ref r) (.tuple (ms.map PyData.int)) := .tup (SqT.of hr) (dpK ms)
    obtain ⟨as, g1⟩ := Dp.reads I _ _ (.ref t) D1 rfl
    obtain ⟨bs, g2⟩ := Dp.reads I _ _ (.ref r) D2 rfl
    have z := SeqAt.compareEq_shaped (prog := prog) (w := w) (A := A) (E := E) (Q := Q) g1 g2 (shapedT ns) (shapedT ms) hu (by rw [eqvK]; exact q)
    exact z
theorem rc_key {a b : Addr} {z : Bool} (T : TupRule op zz) (N : ∀ (A : Around) (s : Shared) (i j : Int) (t u : Tok), Ob.RcOp op A s (.int i t) (.int j u) (p i j)) (hz : ∀ n, zz n n = z) (I : Inv X pins σ H s) (ha : H a = some (.tup [.int (ns.length : Nat), .ref t])) (hb : H b = some (.tup [.int (ms.length : Nat), .ref r]))
    (ht : H t = some (.tup (ns.map V.int))) (hr : H r = some (.tup (ms.map V.int))) (hu : A.units + 65 < cLine) : Ob.RcOp op A s (.ref a) (.ref b) (kcmp p z ns ms) := by
  obtain ⟨its, r1, p1, _⟩ := I.tuple (SqT.of (K := X.K) ha)
  obtain ⟨its2, r2, p2, _⟩ := I.tuple (SqT.of (K := X.K) hb)
  obtain ⟨u1, u2, rfl, ⟨t1, rfl⟩, q2⟩ := vals2 r1
  obtain ⟨v1, v2, rfl, ⟨t2, rfl⟩, q4⟩ := vals2 r2
  obtain rfl : u2 = Value.ref t := q2
  obtain rfl : v2 = Value.ref r := q4
  have R := T A s a b _ _ (fun j => if j = 0 then decide ((ns.length : Int) = ms.length) else decide (ns = ms))
    (fun j => if j = 0 then p ns.length ms.length else Ob.lexAt (fun j => decide (ns.getD j 0 = ms.getD j 0)) (fun j => p (ns.getD j 0) (ms.getD j 0)) (zz ns.length ms.length) 0 (min ns.length ms.length)) p1 p2 (by omega) (fun j h1 h2 => ?_) (fun j h1 h2 _ => ?_)
  · have e : kcmp p z ns ms = Ob.lexAt (fun j => if j = 0 then decide ((ns.length : Int) = ms.length) else decide (ns = ms))
        (fun j => if j = 0 then p ns.length ms.length else Ob.lexAt (fun j => decide (ns.getD j 0 = ms.getD j 0)) (fun j => p (ns.getD j 0) (ms.getD j 0)) (zz ns.length ms.length) 0 (min ns.length ms.length)) (zz 2 2) 0 2 := by
      rw [Ob.lexAt_succ, Ob.lexAt_succ, Ob.lexAt_zero, hz]
      simp only [if_true, Nat.zero_add, Nat.one_ne_zero, if_false]
      unfold kcmp
      by_cases hl : ns.length = ms.length
      · rw [if_pos hl, if_pos (decide_eq_true (by omega)), ← hl, Nat.min_self, hz]
        by_cases hn : ns = ms
        · rw [if_pos (decide_eq_true hn), hn]
          have self : ∀ l : List Int, lexp p z l l = z := fun l => by
            induction l with
            | nil => rfl
            | cons x xs ih =>
              show (if x = x then lexp p z xs xs else p x x) = z
              rw [if_pos rfl, ih]
          exact self ms
        · rw [if_neg (by rw [decide_eq_false hn]; exact Bool.false_ne_true), lexAt_eq p z ns ms hl]
      · rw [if_neg hl, if_neg (by rw [decide_eq_false (fun e => hl (by omega))]; exact Bool.false_ne_true)]
    rw [e]
    exact R
  · match j, h1 with
    | 0, _ =>
      show SeqAt.EqAt A.in1 s (.int ns.length t1) (.int ms.length t2) (decide ((ns.length : Int) = ms.length))
      have q : (((ns.length : Nat) : Int) == ((ms.length : Nat) : Int)) = decide ((ns.length : Int) = ms.length) := by
        by_cases q : (ns.length : Int) = ms.length
        · rw [decide_eq_true q]; exact beq_iff_eq.mpr q
        · rw [decide_eq_false q]; exact beq_eq_false_iff_ne.mpr q
      rw [← q]
      exact SeqAt.EqAt.int_int _ _ _ _
    | 1, _ => exact eq_ints (A := A.in1) I ht hr (by show A.units + 1 + 64 < cLine; omega)
    | j + 2, h1 => exact absurd h1 (by simp)
  · match j, h1 with
    | 0, _ => exact N _ _ _ _ _ _
    | 1, _ => exact rc_ints (A := A.in1) T N I ht hr (by show A.units + 1 < cLine; omega)
    | j + 2, h1 => exact absurd h1 (by simp)
/-- an order of two such keys -/
def rKey (p : Int → Int → Bool) (z : Bool) : R2 := fun x y H Q => ∃ (a b t r : Addr) (ns ms : List Int), x = .ref a ∧ y = .ref b ∧ H a = some (.tup [.int (ns.length : Nat), .ref t]) ∧ H b = some (.tup [.int (ms.length : Nat), .ref r]) ∧ H t = some (.tup (ns.map V.int)) ∧ H r = some (.tup (ms.map V.int)) ∧ Q (.bl (kcmp p z ns ms)) H
theorem op_key {z : Bool} (T : TupRule op zz) (N : ∀ (A : Around) (s : Shared) (i j : Int) (t u : Tok), Ob.RcOp op A s (.int i t) (.int j u) (p i j)) (hz : ∀ n, zz n n = z) (hu : X.A.units + 65 < cLine) : OpR X (richCompare op) (rKey p z) := by
  intro pins s σ H x y v u Q I rx ry h
  obtain ⟨a, b, t, r, ns, ms, rfl, rfl, ha, hb, ht, hr, q⟩ := h
  obtain rfl : v = Value.ref a := rx
  obtain rfl : u = Value.ref b := ry
  exact rc_key T N hz I ha hb ht hr hu X.prog X.w X.xe _ ⟨.bl _, H, I, rfl, q⟩
end
def oLtK : R2 := fun x y H Q => oLt x y H Q ∨ rKey (fun i j => decide (i < j)) false x y H Q
def oGtK : R2 := fun x y H Q => oGt x y H Q ∨ rKey (fun i j => decide (j < i)) false x y H Q
def oLeK : R2 := fun x y H Q => oLe x y H Q ∨ rKey (fun i j => decide (i ≤ j)) true x y H Q
def oGeK : R2 := fun x y H Q => oGe x y H Q ∨ rKey (fun i j => decide (j ≤ i)) true x y H Q
theorem op_oLtK {X : Cx} (hu : X.A.units + 65 < cLine) : OpR X (compareOp .Lt) oLtK := OpR.or op_oLt (op_key (op := .Lt) (zz := fun m n => decide (m < n)) (fun A s l b i1 i2 e r h1 h2 h3 h4 h5 => Ob.RcOp.tuples_lt h1 h2 h3 h4 h5) (fun _ _ i j t u => Ob.RcOp.lt_int i j t u) (fun n => decide_eq_false (Nat.lt_irrefl n)) hu)
theorem op_oGtK {X : Cx} (hu : X.A.units + 65 < cLine) : OpR X (compareOp .Gt) oGtK := OpR.or op_oGt (op_key (op := .Gt) (zz := fun m n => decide (m > n)) (fun A s l b i1 i2 e r h1 h2 h3 h4 h5 => Ob.RcOp.tuples_gt h1 h2 h3 h4 h5) (fun _ _ i j t u => Ob.RcOp.gt_int i j t u) (fun n => decide_eq_false (Nat.lt_irrefl n)) hu)
theorem op_oLeK {X : Cx} (hu : X.A.units + 65 < cLine) : OpR X (compareOp .LtE) oLeK := OpR.or op_oLe (op_key (op := .LtE) (zz := fun m n => decide (m ≤ n)) (fun A s l b i1 i2 e r h1 h2 h3 h4 h5 => Ob.RcOp.tuples_le h1 h2 h3 h4 h5) (fun _ _ i j t u => Ob.RcOp.le_int i j t u) (fun n => decide_eq_true (Nat.le_refl n)) hu)
theorem op_oGeK {X : Cx} (hu : X.A.units + 65 < cLine) : OpR X (compareOp .GtE) oGeK := OpR.or op_oGe (op_key (op := .GtE) (zz := fun m n => decide (m ≥ n)) (fun A s l b i1 i2 e r h1 h2 h3 h4 h5 => Ob.RcOp.tuples_ge h1 h2 h3 h4 h5) (fun _ _ i j t u => Ob.RcOp.ge_int i j t u) (fun n => decide_eq_true (Nat.le_refl n)) hu)
end Ov

set_option Elab.async false
set_option linter.all false
set_option maxRecDepth 100000
namespace Ov
open PySem PySem.Spec PyProof.Rows L2
structure Ad where
  c_BadWorld : Addr
  c_World : Addr
  i_BadWorld : Addr
abbrev g_DIGITS : V := .str "01"
structure Caught (K : PySem.W.Frag) (A : Ad) : Prop where
  o_World : InsC K A.c_World
  io_World : PySem.W.kitOne K (.ref A.c_World) (.ref A.c_World) = some true
/-! ### promises by their arguments -/
def Sp1 (φ : V → Hp → VK → XK → Prop) : Sp := fun vs H Q E => ∃ a, vs = [a] ∧ φ a H Q E
def Sp0 (φ : Hp → VK → XK → Prop) : Sp := fun vs H Q E => vs = [] ∧ φ H Q E
def Sp2 (φ : V → V → Hp → VK → XK → Prop) : Sp := fun vs H Q E => ∃ a b, vs = [a, b] ∧ φ a b H Q E
def Sp3 (φ : V → V → V → Hp → VK → XK → Prop) : Sp := fun vs H Q E => ∃ a b c, vs = [a, b, c] ∧ φ a b c H Q E
def Sp4 (φ : V → V → V → V → Hp → VK → XK → Prop) : Sp := fun vs H Q E => ∃ a b c d, vs = [a, b, c, d] ∧ φ a b c d H Q E
def Sp5 (φ : V → V → V → V → V → Hp → VK → XK → Prop) : Sp := fun vs H Q E => ∃ a b c d e, vs = [a, b, c, d, e] ∧ φ a b c d e H Q E
section
variable {vs : List V} {H : Hp} {Q : VK} {E : XK}
theorem len0 {φ} (h : Sp0 φ vs H Q E) : vs.length = 0 := by obtain ⟨rfl, _⟩ := h; rfl
theorem len1 {φ} (h : Sp1 φ vs H Q E) : vs.length = 1 := by obtain ⟨_, rfl, _⟩ := h; rfl
theorem len2 {φ} (h : Sp2 φ vs H Q E) : vs.length = 2 := by obtain ⟨_, _, rfl, _⟩ := h; rfl
theorem len3 {φ} (h : Sp3 φ vs H Q E) : vs.length = 3 := by obtain ⟨_, _, _, rfl, _⟩ := h; rfl
theorem len4 {φ} (h : Sp4 φ vs H Q E) : vs.length = 4 := by obtain ⟨_, _, _, _, rfl, _⟩ := h; rfl
theorem len5 {φ} (h : Sp5 φ vs H Q E) : vs.length = 5 := by obtain ⟨_, _, _, _, _, rfl, _⟩ := h; rfl
theorem s0 {φ : Hp → VK → XK → Prop} (h : φ H Q E) : Sp0 φ ([] ++ []) H Q E := ⟨rfl, h⟩
theorem s1 {a : V} {φ : V → Hp → VK → XK → Prop} (h : φ a H Q E) : Sp1 φ ([a] ++ []) H Q E := ⟨_, rfl, h⟩
theorem s2 {a b : V} {φ : V → V → Hp → VK → XK → Prop} (h : φ a b H Q E) : Sp2 φ ([a, b] ++ []) H Q E := ⟨_, _, rfl, h⟩
theorem s3 {a b c : V} {φ : V → V → V → Hp → VK → XK → Prop} (h : φ a b c H Q E) : Sp3 φ ([a, b, c] ++ []) H Q E := ⟨_, _, _, rfl, h⟩
theorem s4 {a b c d : V} {φ : V → V → V → V → Hp → VK → XK → Prop} (h : φ a b c d H Q E) : Sp4 φ ([a, b, c, d] ++ []) H Q E := ⟨_, _, _, _, rfl, h⟩
theorem s5 {a b c d e : V} {φ : V → V → V → V → V → Hp → VK → XK → Prop} (h : φ a b c d e H Q E) : Sp5 φ ([a, b, c, d, e] ++ []) H Q E := ⟨_, _, _, _, _, rfl, h⟩
end
/-! ### heaps that differ at one place alone -/
def OffP (p : Addr) (H H' : Hp) : Prop := ∀ q, q ≠ p → H' q = H q
theorem OffP.upd {p : Addr} {H : Hp} {o : HO} : OffP p H (upd H p o) := fun _ h => upd_ne h
theorem OffP.to {p q : Addr} {H H' : Hp} {o : Option HO} (a : OffP p H H') (h : H q = o) (ne : q ≠ p) : H' q = o := (a q ne).trans h
/-- the list at p begins with the same list -/
def Hd (p : Addr) (H H' : Hp) : Prop := ∀ l r, H p = some (.lst (.ref l :: r)) → ∃ r', H' p = some (.lst (.ref l :: r'))
theorem Hd.refl {p : Addr} {H : Hp} : Hd p H H := fun _ r h => ⟨r, h⟩
theorem Hd.trans {p : Addr} {H H1 H2 : Hp} (a : Hd p H H1) (b : Hd p H1 H2) : Hd p H H2 := fun l r h => by
  obtain ⟨r1, h1⟩ := a l r h
  exact b l r1 h1
structure Off (p : Addr) (H H' : Hp) : Prop where
  at_ : ∀ q, q ≠ p → H' q = H q
  hd : Hd p H H'
theorem Off.refl {p : Addr} {H : Hp} : Off p H H := ⟨fun _ _ => rfl, .refl⟩
theorem Off.trans {p : Addr} {H H1 H2 : Hp} (a : Off p H H1) (b : Off p H1 H2) : Off p H H2 := ⟨fun q h => (b.at_ q h).trans (a.at_ q h), a.hd.trans b.hd⟩
theorem Off.to {p q : Addr} {H H' : Hp} {o : Option HO} (a : Off p H H') (h : H q = o) (ne : q ≠ p) : H' q = o := (a.at_ q ne).trans h
/-! ### the pool of draws -/
structure Pool (H : Hp) (p : Addr) : Prop where
  ex : ∃ (l : Addr) (cs : List Int) (a b c d : Int), H p = some (.lst [.ref l, .int a, .int b, .int c, .int d]) ∧ H l = some (.lst (cs.map V.int)) ∧ l ≠ p ∧ 0 ≤ a ∧ 0 ≤ c ∧ c < 10 ^ 18 ∧ d ≤ 7
theorem Pool.off {H H' : Hp} {p q : Addr} (P : Pool H p) (o : OffP q H H') (hq : ∀ xs, H q ≠ some (.lst xs)) : Pool H' p := by
  obtain ⟨l, cs, a, b, c, d, hp, hl, ne, h⟩ := P
  exact ⟨l, cs, a, b, c, d, o.to hp (fun e => hq _ (e ▸ hp)), o.to hl (fun e => hq _ (e ▸ hl)), ne, h⟩
theorem Pool.new {H : Hp} {p q : Addr} {o : HO} (P : Pool H p) (hq : H q = none) : Pool (L2.upd H q o) p := P.off OffP.upd fun xs e => by rw [hq] at e; cases e
/-- what a draw leaves: the pool again, all else as it was -/
def Drawn (H : Hp) (p : Addr) (H' : Hp) : Prop := Pool H' p ∧ Off p H H'

local macro_rules | `(tactic| walk_at "r1") => `(tactic| (first
  | with_reducible refine q_seq ?_ | with_reducible refine q_asg ?_ | with_reducible refine q_name ?_ | with_reducible refine q_ret ?_ | with_reducible refine q_drop ?_ | with_reducible refine q_next ?_
  | with_reducible refine q_ifS ?_ | with_reducible refine q_ifE ?_ | with_reducible refine q_op ?_ | with_reducible refine q_un ?_ | with_reducible refine q_test ?_ | with_reducible refine q_tB ?_ | with_reducible refine q_bl ?_
  | with_reducible refine q_c ?_ | with_reducible refine q_cons ?_ | with_reducible refine q_nil ?_ | with_reducible refine q_call ?_ | with_reducible refine q_cb ?_ | with_reducible refine q_gsub ?_
  | with_reducible refine q_sl ?_ | with_reducible refine q_noPart ?_ | with_reducible refine q_part ?_ | with_reducible refine q_int ?_
  | with_reducible refine q_addI ?_ | with_reducible refine q_subI ?_ | with_reducible refine q_ltI ?_ | with_reducible refine q_leI ?_ | with_reducible refine q_gtI ?_ | with_reducible refine q_geI ?_ | with_reducible refine q_negI ?_
  | with_reducible refine q_cIntI ?_ | with_reducible refine q_cAbs ?_ | with_reducible refine q_isN ?_ | with_reducible refine q_notN ?_
  | with_reducible refine q_and ?_ | with_reducible refine q_or ?_ | with_reducible refine q_not ?_ | with_reducible refine q_andV ?_ | with_reducible refine q_orV ?_ | with_reducible refine q_notV ?_
  | ((with_reducible show tVar _ _ _ _); refine q_var rfl ?_)))
local macro_rules | `(tactic| walk_at "rd") => `(tactic| repeat walk_at "r1")
local macro_rules | `(tactic| walk_at "mod") => `(tactic| with_reducible refine q_modI (by first | omega | decide) ?_)

theorem mul_ok {i j : Int} (a : Nat) (ha : i.natAbs < 2 ^ a) (hb : j.natAbs < 2 ^ 64) (h0 : 0 < a) (h : a ≤ 9000) : CMulW i j := wide_mul ha hb h0 (by decide) (by omega)
theorem mul64 {i j : Int} (ha : i.natAbs < 18446744073709551616) (hb : j.natAbs < 18446744073709551616) : CMulW i j := wide_mul (a := 64) (b := 64) (by simpa using ha) (by simpa using hb) (by decide) (by decide) (by decide)

theorem at_of {α : Type} {xs : List α} {i : Int} {v : α} (h0 : 0 ≤ i) (h : xs[i.toNat]? = some v) : atI xs i = some v := by
  have hl := (List.getElem?_eq_some_iff.mp h).1
  unfold atI ixN
  rw [if_pos h0, if_pos (by omega)]
  exact h
/-! ### texts by their signs -/
/-- the text of these signs -/
abbrev St8 (l : List Nat) : Str := ⟨l.toArray⟩
theorem st8_app (a b : List Nat) : St8 a ++ St8 b = St8 (a ++ b) := by
  show (⟨a.toArray ++ b.toArray⟩ : Str) = ⟨(a ++ b).toArray⟩
  rw [List.append_toArray]
theorem st8_len (a : List Nat) : (St8 a).length = a.length := rfl
theorem st8_list (a : List Nat) : (St8 a).cps.toList = a := rfl
theorem st8_of (z : Str) : z = St8 z.cps.toList := rfl
theorem st8_inj {a b : List Nat} (h : St8 a = St8 b) : a = b := by
  have h1 : (St8 a).cps.toList = (St8 b).cps.toList := by rw [h]
  exact h1
def lets : List Nat := [97, 98, 99, 100, 101, 102, 103, 104, 105, 106, 107, 108, 109, 110, 111, 112, 113, 114, 115, 116, 117, 118, 119, 120, 121, 122]
def digs : List Nat := [48, 49, 50, 51, 52, 53, 54, 55, 56, 57]
theorem lets_is : ("abcdefghijklmnopqrstuvwxyz" : Str) = St8 lets := by decide +kernel
theorem digs_is : ("0123456789" : Str) = St8 digs := by decide +kernel
/-- the signs of a name -/
structure NameL (l : List Nat) : Prop where
  fst : ∃ c r, l = c :: r ∧ c ∈ lets
  all : ∀ c ∈ l, c ∈ lets ++ digs
  len : l.length ≤ 12
/-! ### data as a whole, tracked -/
mutual
inductive Rp (H : Hp) : V → PyData → Prop
  | non : Rp H .non .none
  | bl (b : Bool) : Rp H (.bl b) (.bool b)
  | int (i : Int) : Rp H (.int i) (.int i)
  | str (x : Str) : Rp H (.str x) (.str x)
  | lst {a : Addr} {xs : List V} {ds : List PyData} : H a = some (.lst xs) → xs.length ≤ 1000000 → RpA H xs ds → Rp H (.ref a) (.list ds)
  | tup {a : Addr} {xs : List V} {ds : List PyData} : H a = some (.tup xs) → xs.length ≤ 1000000 → RpA H xs ds → Rp H (.ref a) (.tuple ds)
inductive RpA (H : Hp) : List V → List PyData → Prop
  | nil : RpA H [] []
  | cons {x : V} {d : PyData} {xs : List V} {ds : List PyData} : Rp H x d → RpA H xs ds → RpA H (x :: xs) (d :: ds)
end
theorem RpA.len {H : Hp} : ∀ {xs : List V} {ds : List PyData}, RpA H xs ds → xs.length = ds.length
  | _, _, .nil => rfl
  | _, _, .cons _ t => by rw [List.length_cons, List.length_cons, RpA.len t]
theorem RpA.get {H : Hp} : ∀ {xs : List V} {ds : List PyData} {i : Nat} {x : V}, RpA H xs ds → xs[i]? = some x → ∃ d, ds[i]? = some d ∧ Rp H x d
  | _, _, _, _, .nil, e => by cases e
  | _, _, 0, _, .cons r _, e => by
    cases e
    exact ⟨_, rfl, r⟩
  | _, _, i + 1, _, .cons _ t, e => by
    obtain ⟨d, h1, h2⟩ := RpA.get (i := i) t e
    exact ⟨d, h1, h2⟩
theorem RpA.at {H : Hp} {xs ys : List V} {ds : List PyData} {i : Nat} (a : RpA H xs ds) (b : RpA H ys ds) (hi : i < ds.length) : ∃ x y d, xs[i]? = some x ∧ ys[i]? = some y ∧ d ∈ ds ∧ Rp H x d ∧ Rp H y d := by
  have h1 : i < xs.length := by rw [a.len]; exact hi
  have h2 : i < ys.length := by rw [b.len]; exact hi
  obtain ⟨d, e1, r1⟩ := a.get (List.getElem?_eq_getElem h1)
  obtain ⟨d', e2, r2⟩ := b.get (List.getElem?_eq_getElem h2)
  rw [e1] at e2
  cases e2
  exact ⟨_, _, d, List.getElem?_eq_getElem h1, List.getElem?_eq_getElem h2, List.mem_of_getElem? e1, r1, r2⟩
theorem dep_mem : ∀ {ds : List PyData} {d : PyData}, d ∈ ds → d.depth ≤ PyData.depthAll ds
  | [], _, h => by cases h
  | x :: r, d, h => by
    show d.depth ≤ max x.depth (PyData.depthAll r)
    rcases List.mem_cons.mp h with h | h
    · rw [h]
      exact Nat.le_max_left _ _
    · exact Nat.le_trans (dep_mem h) (Nat.le_max_right _ _)
def spLaw (K : PySem.W.Frag) : Sp := Sp1 fun x H Q _ => ∃ (a : Addr) (ns : List Int), x = .ref a ∧ SqL K H a (ns.map V.int) ∧ ns.length ≤ 63 ∧ ∀ H', Q (.bl true) H'
theorem law_start (K : PySem.W.Frag) (H : Hp) (a : Addr) (ns : List Int) (hl : ns.length ≤ 63) (_ : Only H) (hS : SqL K H a (ns.map V.int)) : spLaw K [.ref a] H (fun v _ => v = .bl true) fun _ _ _ => False := ⟨_, rfl, a, ns, rfl, hS, hl, fun _ => rfl⟩
abbrev sp_law (K : PySem.W.Frag) (_ : Ad) : Sp := spLaw K
theorem same_new {H : Hp} {p : Addr} {o : HO} (h : H p = none) : Same H (upd H p o) := fun b u e => by
  rw [upd_ne (ne_of_none e h)]
  exact e
def Tk (H H' : Hp) : Prop := ∀ q xs, H q = some (.tup xs) → H' q = some (.tup xs)
theorem Tk.refl {H : Hp} : Tk H H := fun _ _ h => h
theorem Tk.trans {H H1 H2 : Hp} (a : Tk H H1) (b : Tk H1 H2) : Tk H H2 := fun q xs h => b q xs (a q xs h)
theorem Tk.new {H : Hp} {q : Addr} {o : HO} (h : H q = none) : Tk H (upd H q o) := fun a xs e => by
  rw [upd_ne (ne_of_none e h)]
  exact e
theorem Tk.lst {H : Hp} {q : Addr} {o : HO} {xs : List V} (h : H q = some (.lst xs)) : Tk H (upd H q o) := fun a ys e => by
  rw [upd_ne (ne_of e h (by intro z; cases z))]
  exact e
theorem Tk.same {H H' : Hp} (s : Same H H') : Tk H H' := fun q xs h => s q _ h
theorem Tk.drawn {H H' : Hp} {p : Addr} (P : Pool H p) (D : Drawn H p H') : Tk H H' := fun q xs h => by
  obtain ⟨l, cs, a, b, c, d, hp, _⟩ := P
  exact D.2.to h (ne_of h hp (by intro z; cases z))
theorem tyL {K : PySem.W.Frag} {H : Hp} {p : Addr} {xs : List V} (h : H p = some (.lst xs)) : tyV K "list" (.ref p) H := Or.inl ⟨rfl, _, Or.inl (Or.inl h)⟩
theorem q_raise {C : Addr} {fn : Str} {W : WX} {ta : TA} {D : Ends} {σ : L2.St} {H : Hp} (h : ta σ H fun vs H1 => ∃ v, vs = [v] ∧ ∀ d, H1 d = none → W (.ref C) (some d) σ (upd H1 d (.xd [(fn, v)]))) : tRaiseE C fn W ta D σ H := h

/-- a number from a cell of the script, a turn and a limit -/
def sp__law_mixed (_ : PySem.W.Frag) (_ : Ad) : Sp := Sp3 fun x y z H Q _ => ∃ c t l : Int, x = .int c ∧ y = .int t ∧ z = .int l ∧ 0 ≤ c ∧ c < 10 ^ 18 ∧ t ≤ 7 ∧ -1 ≤ t ∧ 0 < l ∧ ∀ r, 0 ≤ r → r < l → Q (.int r) H
def t__law_mixed (K : PySem.W.Frag) (A : Ad) : TS :=
  (tSeq (tAsg (tOp oMod (tCB cInt (tCons (tOp (oAdd K) (tOp (oAdd K) (tOp oMul (tVar 0) (tC (.int 48271))) (tOp oMul (tVar 1) (tC (.int 69621)))) (tC (.int 11))) tNil)) (tC (.int 2147483647))) (gName 3))
  (tSeq (tAsg (tOp oMod (tCB cInt (tCons (tOp (oAdd K) (tOp (oAdd K) (tOp oMul (tVar 3) (tC (.int 40692))) (tOp oMul (tVar 0) (tC (.int 16807)))) (tOp oMul (tVar 1) (tC (.int 30269)))) tNil)) (tC (.int 2147483399))) (gName 4))
  (tSeq (tAsg (tOp oMod (tCB cInt (tCons (tOp (oAdd K) (tOp oMul (tVar 4) (tC (.int 39373))) (tOp oDiv (tVar 3) (tC (.int 7)))) tNil)) (tC (.int 1000000007))) (gName 5))
  (tRet (tOp oMod (tCB cInt (tCons (tVar 5) tNil)) (tVar 2))))))
theorem pure__law_mixed {K : PySem.W.Frag} {A : Ad} {vs : List V} {H : Hp} {Q : VK} {E : XK} (h : sp__law_mixed K A vs H Q E) : t__law_mixed K A { nx := fun _ H' => Q .non H', rt := Q } (start ["_law_cell", "_law_turn", "_law_limit", "_law_first", "_law_second", "_law_third"] vs) H := by
  obtain ⟨_, _, _, rfl, c, t, l, rfl, rfl, rfl, hc0, hc1, ht, ht0, hl, k⟩ := h
  unfold t__law_mixed
  walk_at "rd"
  refine q_mulI (mul64 (by omega) (by omega)) ?_
  walk_at "rd"
  refine q_mulI (mul64 (by omega) (by omega)) ?_
  walk_at "rd"
  refine q_modI (by decide) ?_
  walk_at "rd"
  have h1 := Int.emod_nonneg (c * 48271 + t * 69621 + 11) (show (2147483647 : Int) ≠ 0 by decide)
  have h2 := Int.emod_lt_of_pos (c * 48271 + t * 69621 + 11) (show (0 : Int) < 2147483647 by decide)
  generalize (c * 48271 + t * 69621 + 11) % 2147483647 = r1 at h1 h2 ⊢
  refine q_mulI (mul64 (by omega) (by omega)) ?_
  walk_at "rd"
  refine q_mulI (mul64 (by omega) (by omega)) ?_
  walk_at "rd"
  refine q_mulI (mul64 (by omega) (by omega)) ?_
  walk_at "rd"
  refine q_modI (by decide) ?_
  walk_at "rd"
  have h3 := Int.emod_nonneg (r1 * 40692 + c * 16807 + t * 30269) (show (2147483399 : Int) ≠ 0 by decide)
  have h4 := Int.emod_lt_of_pos (r1 * 40692 + c * 16807 + t * 30269) (show (0 : Int) < 2147483399 by decide)
  generalize (r1 * 40692 + c * 16807 + t * 30269) % 2147483399 = r2 at h3 h4 ⊢
  refine q_mulI (mul64 (by omega) (by omega)) ?_
  walk_at "rd"
  refine q_divI (wide_div (b := 3) (by decide) (by decide) (by decide) (by decide)) ?_
  walk_at "rd"
  refine q_modI (by decide) ?_
  walk_at "rd"
  refine q_modI hl ?_
  exact k _ (Int.emod_nonneg _ (by omega)) (Int.emod_lt_of_pos _ hl)


/-! ### a draw -/
def sp__law_draw (_ : PySem.W.Frag) (_ : Ad) : Sp := Sp2 fun x y H Q _ => ∃ (p : Addr) (l : Int), x = .ref p ∧ y = .int l ∧ 0 < l ∧ l < 2 ^ 60 ∧ Pool H p ∧ ∀ r H', 0 ≤ r → r < l → Drawn H p H' → Q (.int r) H'
def t__law_draw (K : PySem.W.Frag) (A : Ad) : TS :=
  (tSeq (tIfS (tTest (tOp oGt (tOp (oIx K) (tVar 0) (tC (.int 2))) (tC (.int 0))))
  (tSeq (tAsg (tOp oMod (tCB cInt (tCons (tOp (oIx K) (tVar 0) (tC (.int 2))) tNil)) (tVar 1)) (gName 3))
  (tSeq (tAsg (tOp oDiv (tOp (oIx K) (tVar 0) (tC (.int 2))) (tVar 1)) (gSub (tVar 0) (tC (.int 2)) rSetL))
  (tRet (tVar 3))))
  tNext)
  (tSeq (tIfS (tTest (tOp oGt (tOp (oIx K) (tVar 0) (tC (.int 4))) (tC (.int 0))))
  (tSeq (tAsg (tOp oSub (tOp (oIx K) (tVar 0) (tC (.int 4))) (tC (.int 1))) (gSub (tVar 0) (tC (.int 4)) rSetL))
  (tRet (tCall (sp__law_mixed K A) [] E0 (tCons (tOp (oIx K) (tVar 0) (tC (.int 3))) (tCons (tOp (oIx K) (tVar 0) (tC (.int 4))) (tCons (tVar 1) tNil))))))
  tNext)
  (tSeq (tIfS (tTest (tOp oGe (tOp (oIx K) (tVar 0) (tC (.int 1))) (tCB (cLen K) (tCons (tOp (oIx K) (tVar 0) (tC (.int 0))) tNil))))
  (tRet (tC (.int 0)))
  tNext)
  (tSeq (tAsg (tOp (oIx K) (tOp (oIx K) (tVar 0) (tC (.int 0))) (tOp (oIx K) (tVar 0) (tC (.int 1)))) (gName 2))
  (tSeq (tAsg (tOp (oAdd K) (tOp (oIx K) (tVar 0) (tC (.int 1))) (tC (.int 1))) (gSub (tVar 0) (tC (.int 1)) rSetL))
  (tSeq (tIfS (tTest (tOp oLt (tVar 2) (tC (.int 0))))
  (tAsg (tOp oSub (tUn oNeg (tC (.int 1))) (tVar 2)) (gName 2))
  tNext)
  (tSeq (tIfS (tTest (tOp oGe (tVar 2) (tOp oPow (tC (.int 10)) (tC (.int 18)))))
  (tSeq (tAsg (tOp oDiv (tVar 2) (tVar 1)) (gSub (tVar 0) (tC (.int 2)) rSetL))
  (tRet (tOp oMod (tCB cInt (tCons (tVar 2) tNil)) (tVar 1))))
  tNext)
  (tSeq (tAsg (tVar 2) (gSub (tVar 0) (tC (.int 3)) rSetL))
  (tSeq (tAsg (tC (.int 7)) (gSub (tVar 0) (tC (.int 4)) rSetL))
  (tRet (tCall (sp__law_mixed K A) [] E0 (tCons (tVar 2) (tCons (tC (.int 7)) (tCons (tVar 1) tNil))))))))))))))
theorem pure__law_draw {K : PySem.W.Frag} {A : Ad} {vs : List V} {H : Hp} {Q : VK} {E : XK} (h : sp__law_draw K A vs H Q E) : t__law_draw K A { nx := fun _ H' => Q .non H', rt := Q } (start ["_law_pool_here", "_law_limit", "_law_cell", "_law_digit"] vs) H := by
  obtain ⟨_, _, rfl, p, lim, rfl, rfl, hl0, hl1, ⟨l, cs, a, b, c, d, hp, hl, ne, ha, hc0, hc1, hd⟩, k⟩ := h
  have hdiv : ∀ i : Int, CDivW i lim := fun i => wide_div (b := 60) hl0 (by omega) (by decide) (by decide)
  have pool : ∀ (a' b' c' d' : Int), 0 ≤ a' → 0 ≤ c' → c' < 10 ^ 18 → d' ≤ 7 → Drawn H p (upd H p (.lst [.ref l, .int a', .int b', .int c', .int d'])) := fun a' b' c' d' h1 h2 h3 h4 =>
    ⟨⟨l, cs, a', b', c', d', upd_same, by rw [upd_ne ne]; exact hl, ne, h1, h2, h3, h4⟩, ⟨fun _ h => upd_ne h, fun l' r e => by rw [hp] at e; cases e; exact ⟨_, upd_same⟩⟩⟩
  unfold t__law_draw
  walk_at "rd"
  refine q_ixL hp rfl ?_
  walk_at "rd"
  refine q_dec (fun hb => ?_) (fun _ => ?_)
  · walk_at "rd"
    refine q_ixL hp rfl ?_
    walk_at "rd"
    refine q_modI hl0 ?_
    walk_at "rd"
    refine q_ixL hp rfl ?_
    walk_at "rd"
    refine q_divI (hdiv _) ?_
    walk_at "rd"
    refine q_setL hp rfl ?_
    walk_at "rd"
    exact k _ _ (Int.emod_nonneg _ (by omega)) (Int.emod_lt_of_pos _ hl0) (pool a _ c d ha hc0 hc1 hd)
  walk_at "rd"
  refine q_ixL hp rfl ?_
  walk_at "rd"
  refine q_dec (fun hd0 => ?_) (fun _ => ?_)
  · walk_at "rd"
    refine q_ixL hp rfl ?_
    walk_at "rd"
    refine q_setL hp rfl ?_
    walk_at "rd"
    refine q_ixL upd_same rfl ?_
    walk_at "rd"
    refine q_ixL upd_same rfl ?_
    walk_at "rd"
    refine s3 ⟨c, d - 1, lim, rfl, rfl, rfl, hc0, hc1, by omega, by omega, hl0, fun r h0 h1 => ?_⟩
    exact k r _ h0 h1 (pool a b c (d - 1) ha hc0 hc1 (by omega))
  walk_at "rd"
  refine q_ixL hp rfl ?_
  walk_at "rd"
  refine q_ixL hp rfl ?_
  walk_at "rd"
  refine q_lenL hl ?_
  walk_at "rd"
  refine q_dec (fun _ => ?_) (fun hlt => ?_)
  · walk_at "rd"
    exact k 0 H (by omega) hl0 ⟨⟨l, cs, a, b, c, d, hp, hl, ne, ha, hc0, hc1, hd⟩, Off.refl⟩
  rw [List.length_map] at hlt
  have hlt' : a.toNat < cs.length := by omega
  walk_at "rd"
  refine q_ixL hp rfl ?_
  walk_at "rd"
  refine q_ixL hp rfl ?_
  walk_at "rd"
  refine q_ixL (v := .int cs[a.toNat]) hl (at_of ha (by rw [List.getElem?_map, List.getElem?_eq_getElem hlt']; rfl)) ?_
  walk_at "rd"
  generalize cs[a.toNat] = z
  refine q_ixL hp rfl ?_
  walk_at "rd"
  refine q_setL hp rfl ?_
  walk_at "rd"
  -- the cell as it is drawn from
  have tail : ∀ z : Int, 0 ≤ z → (tSeq (tIfS (tTest (tOp oGe (tVar 2) (tOp oPow (tC (.int 10)) (tC (.int 18)))))
  (tSeq (tAsg (tOp oDiv (tVar 2) (tVar 1)) (gSub (tVar 0) (tC (.int 2)) rSetL))
  (tRet (tOp oMod (tCB cInt (tCons (tVar 2) tNil)) (tVar 1))))
  tNext)
  (tSeq (tAsg (tVar 2) (gSub (tVar 0) (tC (.int 3)) rSetL))
  (tSeq (tAsg (tC (.int 7)) (gSub (tVar 0) (tC (.int 4)) rSetL))
  (tRet (tCall (sp__law_mixed K A) [] E0 (tCons (tVar 2) (tCons (tC (.int 7)) (tCons (tVar 1) tNil)))))))) { nx := fun _ H' => Q .non H', rt := Q }
      [some (.ref p), some (.int lim), some (.int z), none] (upd H p (.lst [.ref l, .int (a + 1), .int b, .int c, .int d])) := by
    intro z hz
    walk_at "rd"
    refine q_powI ⟨by decide, by decide, by decide⟩ ?_
    walk_at "rd"
    refine q_dec (fun _ => ?_) (fun hz1 => ?_)
    · walk_at "rd"
      refine q_divI (hdiv _) ?_
      walk_at "rd"
      refine q_setL upd_same rfl ?_
      walk_at "rd"
      refine q_modI hl0 ?_
      rw [upd_upd]
      exact k _ _ (Int.emod_nonneg _ (by omega)) (Int.emod_lt_of_pos _ hl0) (pool (a + 1) _ c d (by omega) hc0 hc1 hd)
    have hz2 : z < 10 ^ 18 := by
      have e : (10 : Int) ^ (18 : Int).toNat = 10 ^ 18 := rfl
      omega
    walk_at "rd"
    refine q_setL upd_same rfl ?_
    walk_at "rd"
    refine q_setL upd_same rfl ?_
    walk_at "rd"
    rw [upd_upd, upd_upd]
    refine s3 ⟨z, 7, lim, rfl, rfl, rfl, hz, hz2, by decide, by decide, hl0, fun r h0 h1 => ?_⟩
    exact k r _ h0 h1 (pool (a + 1) b z 7 (by omega) hz hz2 (by decide))
  refine q_dec (fun hz => ?_) (fun hz => ?_)
  · refine q_asg (q_op (q_un (q_c (q_negI (q_var rfl (q_subI ?_))))))
    exact tail _ (by omega)
  · exact tail _ (by omega)

def sp__law_pool (K : PySem.W.Frag) (_ : Ad) : Sp := Sp1 fun x H Q _ => ∃ (a : Addr) (cs : List Int), x = .ref a ∧ SqL K H a (cs.map V.int) ∧ ∀ p H', Same H H' → Pool H' p → H p = none → Q (.ref p) H'
def t__law_pool (K : PySem.W.Frag) (A : Ad) : TS :=
  (tRet (tLst (tCons (tCB (cList K) (tCons (tVar 0) tNil)) (tCons (tC (.int 0)) (tCons (tC (.int 0)) (tCons (tC (.int 0)) (tCons (tC (.int 0)) tNil)))))))
theorem pure__law_pool {K : PySem.W.Frag} {A : Ad} {vs : List V} {H : Hp} {Q : VK} {E : XK} (h : sp__law_pool K A vs H Q E) : t__law_pool K A { nx := fun _ H' => Q .non H', rt := Q } (start ["_law_script"] vs) H := by
  obtain ⟨_, rfl, a, cs, rfl, hS, k⟩ := h
  unfold t__law_pool
  walk_at "rd"
  refine q_lst ?_
  walk_at "rd"
  refine ⟨_, _, rfl, .inl hS, fun l hl => ?_⟩
  walk_at "rd"
  refine ⟨by show 5 ≤ sizeLine; decide, fun p hp => ?_⟩
  have ne : l ≠ p := ne_of_none upd_same hp
  have hpH : H p = none := by
    rw [upd_ne (Ne.symm ne)] at hp
    exact hp
  refine k p _ (fun b o e => ?_) ⟨l, cs, 0, 0, 0, 0, upd_same, by rw [upd_ne ne, upd_same], ne, by decide, by decide, by decide, by decide⟩ hpH
  rw [upd_ne (ne_of_none e hpH), upd_ne (ne_of_none e hl)]
  exact e

/-- the same data: True -/
def same_at (n : Nat) : Sp := Sp2 fun x y H Q _ => ∃ d, Rp H x d ∧ Rp H y d ∧ d.depth < n ∧ Q (.bl true) H
def t__law_same (K : PySem.W.Frag) (A : Ad) (rec : Sp) : TS :=
  (tSeq (tIfS (tTest (tOp oIsN (tVar 1) (tC .non)))
  (tRet (tOp oIsN (tVar 0) (tC .non)))
  tNext)
  (tSeq (tIfS (tB (tCB (cIsi K) (tCons (tVar 1) (tCons (tC (.ty "bool")) tNil))))
  (tRet (tAndV (tCB (cIsi K) (tCons (tVar 0) (tCons (tC (.ty "bool")) tNil))) (tOp (oEq K) (tVar 0) (tVar 1))))
  tNext)
  (tSeq (tIfS (tB (tCB (cIsi K) (tCons (tVar 1) (tCons (tC (.ty "int")) tNil))))
  (tRet (tAndV (tCB (cIsi K) (tCons (tVar 0) (tCons (tC (.ty "int")) tNil))) (tAndV (tNotV (tCB (cIsi K) (tCons (tVar 0) (tCons (tC (.ty "bool")) tNil)))) (tOp (oEq K) (tVar 0) (tVar 1)))))
  tNext)
  (tSeq (tIfS (tB (tCB (cIsi K) (tCons (tVar 1) (tCons (tC (.ty "str")) tNil))))
  (tRet (tAndV (tCB (cIsi K) (tCons (tVar 0) (tCons (tC (.ty "str")) tNil))) (tOp (oEq K) (tVar 0) (tVar 1))))
  tNext)
  (tSeq (tIfS (tAnd (tB (tCB (cIsi K) (tCons (tVar 1) (tCons (tC (.ty "tuple")) tNil)))) (tNot (tB (tCB (cIsi K) (tCons (tVar 0) (tCons (tC (.ty "tuple")) tNil))))))
  (tRet (tC (.bl false)))
  tNext)
  (tSeq (tIfS (tAnd (tB (tCB (cIsi K) (tCons (tVar 1) (tCons (tC (.ty "list")) tNil)))) (tNot (tB (tCB (cIsi K) (tCons (tVar 0) (tCons (tC (.ty "list")) tNil))))))
  (tRet (tC (.bl false)))
  tNext)
  (tSeq (tIfS (tTest (tOp (oNe K) (tCB (cLen K) (tCons (tVar 0) tNil)) (tCB (cLen K) (tCons (tVar 1) tNil))))
  (tRet (tC (.bl false)))
  tNext)
  (tSeq (tFor (iRng1 (tCons (tCB (cLen K) (tCons (tVar 1) tNil)) tNil)) (gName 2)
  (tIfS (tNot (tB (tCall rec [] E0 (tCons (tOp (oIx K) (tVar 0) (tVar 2)) (tCons (tOp (oIx K) (tVar 1) (tVar 2)) tNil)))))
  (tRet (tC (.bl false)))
  tNext))
  (tRet (tC (.bl true)))))))))))
theorem loop_same {K : PySem.W.Frag} {A : Ad} {n : Nat} {a b : Addr} {xs ys : List V} {ds : List PyData} {H : Hp} {Q : VK} {D : Ends} (hD : D.rt = Q) (ra : RpA H xs ds) (rb : RpA H ys ds) (hl : ys.length ≤ 1000000)
    (ha : SqL K H a xs ∨ SqT K H a xs) (hb : SqL K H b ys ∨ SqT K H b ys) (hd : PyData.depthAll ds < n) (k : Q (.bl true) H) {v : Option V}
    (hlen : ∀ Q' : VK, Q' (.int ys.length) H → cLen K [.ref b] H Q') :
    (tSeq (tFor (iRng1 (tCons (tCB (cLen K) (tCons (tVar 1) tNil)) tNil)) (gName 2)
  (tIfS (tNot (tB (tCall (same_at n) [] E0 (tCons (tOp (oIx K) (tVar 0) (tVar 2)) (tCons (tOp (oIx K) (tVar 1) (tVar 2)) tNil)))))
  (tRet (tC (.bl false)))
  tNext))
  (tRet (tC (.bl true)))) D [some (.ref a), some (.ref b), v] H := by
  subst hD
  walk_at "rd"
  refine q_for ?_
  refine q_cons (q_cb (q_cons (q_var rfl (q_nil (hlen _ ?_)))))
  refine q_nil ⟨_, rfl, by omega, by omega, ?_⟩
  refine for_range (fun i σ H4 => H4 = H ∧ ∃ v : Option V, σ = [some (.ref a), some (.ref b), v]) ⟨rfl, v, rfl⟩ ?_ ?_
  · rintro i σ H4 hi ⟨rfl, v, rfl⟩
    have hi' : i < ds.length := by rw [← rb.len]; omega
    obtain ⟨x, y, d, ex, ey, hm, rx, ry⟩ := ra.at rb hi'
    walk_at "rd"
    refine ⟨xs, x, ha, at_of (by omega) (by rw [show (0 + (i : Int)).toNat = i by omega]; exact ex), ?_⟩
    walk_at "rd"
    refine ⟨ys, y, hb, at_of (by omega) (by rw [show (0 + (i : Int)).toNat = i by omega]; exact ey), ?_⟩
    walk_at "rd"
    refine s2 ⟨d, rx, ry, Nat.lt_of_le_of_lt (dep_mem hm) hd, ?_⟩
    refine ⟨true, rfl, ?_⟩
    refine q_F ?_
    walk_at "rd"
    exact ⟨rfl, _, rfl⟩
  · rintro σ H4 ⟨rfl, v, rfl⟩
    walk_at "rd"
    exact k
theorem pure__law_same {K : PySem.W.Frag} {A : Ad} {n : Nat} {vs : List V} {H : Hp} {Q : VK} {E : XK} (h : same_at (n + 1) vs H Q E) : t__law_same K A (same_at n) { nx := fun _ H' => Q .non H', rt := Q } (start ["_law_actual", "_law_expected", "_law_k"] vs) H := by
  obtain ⟨x, y, rfl, d, rx, ry, hd, k⟩ := h
  have hT : ∀ n : String, n ∈ tyNames ↔ n = "bool" ∨ n = "int" ∨ n = "str" ∨ n = "tuple" ∨ n = "list" := fun n => by simp [tyNames]
  have t1 : "bool" ∈ tyNames := by simp [tyNames]
  have t2 : "int" ∈ tyNames := by simp [tyNames]
  have t3 : "str" ∈ tyNames := by simp [tyNames]
  have t4 : "tuple" ∈ tyNames := by simp [tyNames]
  have t5 : "list" ∈ tyNames := by simp [tyNames]
  unfold t__law_same
  walk_at "rd"
  cases ry with
  | non =>
    cases rx
    refine q_decT rfl ?_
    walk_at "rd"
    exact k
  | bl b =>
    cases rx
    refine q_decF (fun h => nomatch h) ?_
    walk_at "rd"
    refine q_isi true t1 rfl ?_
    walk_at "rd"
    refine q_T ?_
    walk_at "rd"
    refine q_isi true t1 rfl ?_
    refine ⟨true, rfl, q_T ?_⟩
    walk_at "rd"
    refine q_eqS rfl ?_
    rw [decide_eq_true rfl]
    exact k
  | int i =>
    cases rx
    refine q_decF (fun h => nomatch h) ?_
    walk_at "rd"
    refine q_isi false t1 rfl ?_
    walk_at "rd"
    refine q_F ?_
    walk_at "rd"
    refine q_isi true t2 rfl ?_
    walk_at "rd"
    refine q_T ?_
    walk_at "rd"
    refine q_isi true t2 rfl ?_
    refine ⟨true, rfl, q_T ?_⟩
    walk_at "rd"
    refine q_isi false t1 rfl ?_
    refine ⟨false, rfl, ?_⟩
    refine ⟨true, rfl, q_T ?_⟩
    walk_at "rd"
    refine q_eqS rfl ?_
    rw [decide_eq_true rfl]
    exact k
  | str z =>
    cases rx
    refine q_decF (fun h => nomatch h) ?_
    walk_at "rd"
    refine q_isi false t1 rfl ?_
    walk_at "rd"
    refine q_F ?_
    walk_at "rd"
    refine q_isi false t2 rfl ?_
    walk_at "rd"
    refine q_F ?_
    walk_at "rd"
    refine q_isi true t3 rfl ?_
    walk_at "rd"
    refine q_T ?_
    walk_at "rd"
    refine q_isi true t3 rfl ?_
    refine ⟨true, rfl, q_T ?_⟩
    walk_at "rd"
    refine q_eqS rfl ?_
    rw [decide_eq_true rfl]
    exact k
  | @lst b ys ds eb lb rb =>
    cases rx with
    | @lst a xs _ ea la ra =>
    refine q_decF (fun h => nomatch h) ?_
    walk_at "rd"
    refine q_isi false t1 (.inr ⟨⟨_, eb⟩, rfl⟩) ?_
    walk_at "rd"
    refine q_F ?_
    walk_at "rd"
    refine q_isi false t2 (.inr ⟨⟨_, eb⟩, rfl⟩) ?_
    walk_at "rd"
    refine q_F ?_
    walk_at "rd"
    refine q_isi false t3 (.inr ⟨⟨_, eb⟩, rfl⟩) ?_
    walk_at "rd"
    refine q_F ?_
    walk_at "rd"
    refine q_isi false t4 (.inr ⟨⟨_, eb⟩, rfl⟩) ?_
    walk_at "rd"
    refine q_F ?_
    refine q_F ?_
    walk_at "rd"
    refine q_isi true t5 (.inr ⟨⟨_, eb⟩, rfl⟩) ?_
    walk_at "rd"
    refine q_T ?_
    walk_at "rd"
    refine q_isi true t5 (.inr ⟨⟨_, ea⟩, rfl⟩) ?_
    refine ⟨true, rfl, ?_⟩
    refine q_F ?_
    walk_at "rd"
    refine q_lenL ea ?_
    walk_at "rd"
    refine q_lenL eb ?_
    refine q_neS rfl ?_
    refine ⟨_, rfl, ?_⟩
    rw [ra.len, rb.len, decide_eq_true rfl]
    refine q_F ?_
    refine q_next ?_
    exact loop_same (A := A) rfl ra rb lb (.inl (SqL.of ea)) (.inl (SqL.of eb)) (by have : PyData.depthAll ds + 1 < n + 1 := by { have e : (PyData.list ds).depth = PyData.depthAll ds + 1 := by { first | rfl | (simp [PyData.depth]) | (simp [PyData.depth]; omega) }; omega }; omega) k (fun Q' q => q_lenL eb q)
  | @tup b ys ds eb lb rb =>
    cases rx with
    | @tup a xs _ ea la ra =>
    refine q_decF (fun h => nomatch h) ?_
    walk_at "rd"
    refine q_isi false t1 (.inl ⟨⟨_, eb⟩, rfl⟩) ?_
    walk_at "rd"
    refine q_F ?_
    walk_at "rd"
    refine q_isi false t2 (.inl ⟨⟨_, eb⟩, rfl⟩) ?_
    walk_at "rd"
    refine q_F ?_
    walk_at "rd"
    refine q_isi false t3 (.inl ⟨⟨_, eb⟩, rfl⟩) ?_
    walk_at "rd"
    refine q_F ?_
    walk_at "rd"
    refine q_isi true t4 (.inl ⟨⟨_, eb⟩, rfl⟩) ?_
    walk_at "rd"
    refine q_T ?_
    walk_at "rd"
    refine q_isi true t4 (.inl ⟨⟨_, ea⟩, rfl⟩) ?_
    refine ⟨true, rfl, ?_⟩
    refine q_F ?_
    walk_at "rd"
    refine q_isi false t5 (.inl ⟨⟨_, eb⟩, rfl⟩) ?_
    walk_at "rd"
    refine q_F ?_
    refine q_F ?_
    walk_at "rd"
    refine q_lenT ea ?_
    walk_at "rd"
    refine q_lenT eb ?_
    refine q_neS rfl ?_
    refine ⟨_, rfl, ?_⟩
    rw [ra.len, rb.len, decide_eq_true rfl]
    refine q_F ?_
    refine q_next ?_
    exact loop_same (A := A) rfl ra rb lb (.inr (SqT.of ea)) (.inr (SqT.of eb)) (by have : PyData.depthAll ds + 1 < n + 1 := by { have e : (PyData.tuple ds).depth = PyData.depthAll ds + 1 := by { first | rfl | (simp [PyData.depth]) | (simp [PyData.depth]; omega) }; omega }; omega) k (fun Q' q => q_lenT eb q)
abbrev rec_law_same (_ : PySem.W.Frag) (_ : Ad) (n : Nat) : Sp := same_at n
theorem no_law_same {vs : List V} {H : Hp} {Q : VK} {E : XK} (h : same_at 0 vs H Q E) : False := by
  obtain ⟨_, _, _, d, _, _, hd, _⟩ := h
  exact Nat.not_lt_zero _ hd
abbrev sp__law_same (_ : PySem.W.Frag) (_ : Ad) : Sp := same_at 6

def Ex (p : Addr) (H H' : Hp) : Prop := ∀ a o, a ≠ p → H a = some o → H' a = some o
theorem Ex.same {p : Addr} {H H' : Hp} (s : Same H H') : Ex p H H' := fun a o _ h => s a o h
theorem Ex.trans {p : Addr} {H H1 H2 : Hp} (a : Ex p H H1) (b : Ex p H1 H2) : Ex p H H2 := fun q o h e => b q o h (a q o h e)
theorem Ex.upd {p : Addr} {H : Hp} {o : HO} : Ex p H (upd H p o) := fun q u h e => by rw [upd_ne h]; exact e
theorem Ex.to {p : Addr} {H H1 H2 : Hp} (hp : H p = none) (s : Same H H1) (e : Ex p H1 H2) : Same H H2 := fun q o h => e q o (fun z => by rw [z, hp] at h; cases h) (s q o h)
structure Dw (p : Addr) (H H' : Hp) : Prop where
  pool : Pool H' p
  ex : Ex p H H'
  hd : Hd p H H'
theorem Dw.of {p : Addr} {H H' : Hp} (d : Drawn H p H') : Dw p H H' := ⟨d.1, fun a o n e => d.2.to e n, d.2.hd⟩
theorem Dw.refl {p : Addr} {H : Hp} (P : Pool H p) : Dw p H H := ⟨P, fun _ _ _ e => e, .refl⟩
theorem Dw.trans {p : Addr} {H H1 H2 : Hp} (a : Dw p H H1) (b : Dw p H1 H2) : Dw p H H2 := ⟨b.pool, a.ex.trans b.ex, a.hd.trans b.hd⟩
theorem Hd.off {p q : Addr} {H : Hp} {o : HO} (n : q ≠ p) : Hd p H (upd H q o) := fun _ r h => ⟨r, by rw [upd_ne (Ne.symm n)]; exact h⟩
theorem Dw.new {p q : Addr} {H : Hp} {o : HO} (P : Pool H p) (h : H q = none) : Dw p H (upd H q o) := ⟨P.new h, Ex.same (same_new h), Hd.off fun e => by
  obtain ⟨l, cs, a, b, c, d, hp, _⟩ := P
  rw [e, hp] at h
  cases h⟩
/-- the pool's own list is not at q -/
def POff (H : Hp) (p q : Addr) : Prop := ∀ l r, H p = some (.lst (.ref l :: r)) → l ≠ q
theorem POff.dw {p q : Addr} {H H' : Hp} (P : Pool H p) (a : POff H p q) (d : Dw p H H') : POff H' p q := fun l r h => by
  obtain ⟨l0, cs, a0, b, c, d0, hp, _⟩ := P
  obtain ⟨r', h'⟩ := d.hd _ _ hp
  rw [h'] at h
  cases h
  exact a _ _ hp
theorem POff.new {p q : Addr} {H : Hp} (P : Pool H p) (h : H q = none) : POff H p q := fun l r e z => by
  obtain ⟨l0, cs, a0, b, c, d0, hp, hl, _⟩ := P
  rw [hp] at e
  cases e
  rw [z, h] at hl
  cases hl
theorem POff.upd {p q s : Addr} {H : Hp} {o : HO} (a : POff H p q) (n : s ≠ p) : POff (L2.upd H s o) p q := fun l r e => by
  rw [upd_ne (Ne.symm n)] at e
  exact a l r e
theorem Pool.at_off {p q : Addr} {H : Hp} {o : HO} (P : Pool H p) (a : POff H p q) (n : q ≠ p) : Pool (L2.upd H q o) p := by
  obtain ⟨l, cs, a0, b, c, d, hp, hl, ne, h⟩ := P
  have hq := a _ _ hp
  exact ⟨l, cs, a0, b, c, d, by rw [upd_ne (Ne.symm n)]; exact hp, by rw [upd_ne hq]; exact hl, ne, h⟩
theorem pool_at {H : Hp} {p : Addr} (P : Pool H p) : ∃ xs, H p = some (.lst xs) := by
  obtain ⟨l, cs, a, b, c, d, hp, _⟩ := P
  exact ⟨_, hp⟩
theorem Dw.tk {p : Addr} {H H' : Hp} (P : Pool H p) (d : Dw p H H') : Tk H H' := fun q xs h => by
  obtain ⟨ys, hp⟩ := pool_at P
  exact d.ex q _ (ne_of h hp (by intro z; cases z)) h

theorem va_addS {K : PySem.W.Frag} {σ : L2.St} {H : Hp} {ta tb : TE} {a b : Str} (ha : Val ta σ H (.str a)) (hb : Val tb σ H (.str b)) (hl : a.length + b.length ≤ sizeLine) : Val (tOp (oAdd K) ta tb) σ H (.str (a ++ b)) := va_op ha hb fun _ q => q_addS hl q
theorem va_ixS {K : PySem.W.Frag} {σ : L2.St} {H : Hp} {ta tb : TE} {z : Str} {i : Int} {c : Nat} (ha : Val ta σ H (.str z)) (hb : Val tb σ H (.int i)) (hz : z.length ≤ sizeLine) (e : atI z.cps.toList i = some c) : Val (tOp (oIx K) ta tb) σ H (.str ⟨#[c]⟩) := va_op ha hb fun _ q => q_ixS hz e q
theorem va_slS {K : PySem.W.Frag} {σ : L2.St} {H : Hp} {te : TE} {tl th : TO} {z : Str} {lo hi : Option Int} (ha : Val te σ H (.str z)) (hlo : ∀ Q, Q lo H → tl σ H Q) (hhi : ∀ Q, Q hi H → th σ H Q) (hz : z.length ≤ sizeLine) : Val (tSl (oSl K) te tl th) σ H (.str (cutS z lo hi)) :=
  fun Q q => ha _ (hlo _ (hhi _ (q_slS hz q)))
theorem po_no {σ : L2.St} {H : Hp} : ∀ Q : Option Int → Hp → Prop, Q none H → tNoPart σ H Q := fun _ q => q
theorem po_at {σ : L2.St} {H : Hp} {te : TE} {i : Int} (h : Val te σ H (.int i)) : ∀ Q : Option Int → Hp → Prop, Q (some i) H → tPart te σ H Q := fun _ q => h _ ⟨i, rfl, q⟩

theorem cut_len {z : Str} {lo hi : Option Int} : (cutS z lo hi).length ≤ z.length := by
  show (List.toArray _).size ≤ z.cps.size
  rw [List.size_toArray, List.length_take, List.length_drop, Array.length_toList]
  omega
theorem app_len {a b : Str} : (a ++ b).length = a.length + b.length := by
  show (a.cps ++ b.cps).size = _
  rw [Array.size_append]
  rfl
theorem sz1000 {n : Nat} (h : n ≤ 100000) : n ≤ sizeLine := Nat.le_trans h (by decide)
/-! ### rows of answers -/
def Gd (n : Int) : Prop := n = 0 ∨ n = 1
instance (n : Int) : Decidable (Gd n) := inferInstanceAs (Decidable (n = 0 ∨ n = 1))
/-- the first that is no answer -/
def fw : List Int → Option Nat
  | [] => none
  | n :: r => if Gd n then (fw r).map (· + 1) else some 0
theorem fw_none : ∀ {ns : List Int}, (∀ x ∈ ns, Gd x) → fw ns = none
  | [], _ => rfl
  | n :: r, h => by
    have e := fw_none (ns := r) fun x hx => h x (List.mem_cons_of_mem _ hx)
    show (if Gd n then (fw r).map (· + 1) else some 0) = none
    rw [if_pos (h n List.mem_cons_self), e]
    rfl
theorem fw_at : ∀ {ns : List Int} {i : Nat} {x : Int}, ns[i]? = some x → ¬ Gd x → (∀ j y, j < i → ns[j]? = some y → Gd y) → fw ns = some i
  | [], _, _, h, _, _ => by cases h
  | n :: r, 0, x, h, hx, _ => by
    cases h
    show (if Gd n then (fw r).map (· + 1) else some 0) = some 0
    rw [if_neg hx]
  | n :: r, i + 1, x, h, hx, hl => by
    have e := fw_at (ns := r) (i := i) h hx fun j y hj hy => hl (j + 1) y (by omega) hy
    show (if Gd n then (fw r).map (· + 1) else some 0) = some (i + 1)
    rw [if_pos (hl 0 n (by omega) rfl), e]
    rfl
theorem fw_good : ∀ {ns : List Int}, fw ns = none → ∀ x ∈ ns, Gd x
  | [], _, x, hx => by cases hx
  | n :: r, h, x, hx => by
    have h' : (if Gd n then (fw r).map (· + 1) else some 0) = none := h
    by_cases g : Gd n
    · rw [if_pos g] at h'
      have hr : fw r = none := by
        cases e : fw r with
        | none => rfl
        | some k => rw [e] at h'; cases h'
      rcases List.mem_cons.mp hx with rfl | hx
      · exact g
      · exact fw_good hr x hx
    · rw [if_neg g] at h'
      cases h'
def wrV : Option Nat → V
  | none => .non
  | some i => .int i
def dig (c : Nat) : Int := if c = 48 then 0 else if c = 49 then 1 else -1
def digz (z : Str) : List Int := z.cps.toList.map dig
theorem digz_len (z : Str) : (digz z).length = z.length := by
  unfold digz
  rw [List.length_map, Array.length_toList]
  rfl
def sgn (n : Int) : Nat := if n = 0 then 48 else 49
/-- the text of a world -/
def txt (ns : List Int) : Str := St8 (ns.map sgn)
theorem txt_len (ns : List Int) : (txt ns).length = ns.length := by
  show (ns.map sgn).length = _
  rw [List.length_map]
theorem dig_sgn {n : Int} (h : Gd n) : dig (sgn n) = n := by
  rcases h with rfl | rfl <;> rfl
theorem digz_txt {ns : List Int} (h : fw ns = none) : digz (txt ns) = ns := by
  have g := fw_good h
  show ((ns.map sgn)).map dig = ns
  rw [List.map_map]
  refine (List.map_congr_left fun x hx => ?_).trans (List.map_id ns)
  exact dig_sgn (g x hx)
def LT (b : Bool) (H : Hp) (r : Addr) (xs : List V) : Prop := H r = some (if b = true then .lst xs else .tup xs)
theorem LT.sq {K : PySem.W.Frag} {b : Bool} {H : Hp} {r : Addr} {xs : List V} (h : LT b H r xs) : SqB K b H r xs := by
  unfold SqB
  cases b with
  | true => rw [if_pos rfl]; exact SqL.of h
  | false => rw [if_neg Bool.false_ne_true]; exact SqT.of h
/-- a world with these answers -/
def Wd (A : Ad) (H : Hp) (w : Addr) (ns : List Int) : Prop := ∃ dx t, H w = some (.ins A.c_World dx [("answers", .ref t)]) ∧ H t = some (.tup (ns.map V.int))
theorem Wd.mono {A : Ad} {H H' : Hp} {w : Addr} {ns : List Int} (h : Wd A H w ns) (s : Same H H') : Wd A H' w ns := by
  obtain ⟨dx, t, h1, h2⟩ := h
  exact ⟨dx, t, s _ _ h1, s _ _ h2⟩
theorem wl1 {x : V} : List.lookup ("answers" : Str) [("answers", x)] = some x := by simp [List.lookup]
def BadAt (A : Ad) (ns : List Int) (H : Hp) (E : XK) : Prop := ∀ i, fw ns = some i → ∀ d H', Same H H' → H' d = some (.xd [("at", .int (i : Nat))]) → E (.ref A.c_BadWorld) (some d) H'
def MkW (A : Ad) (ns : List Int) (H : Hp) (Q : VK) (E : XK) : Prop := (fw ns = none → ∀ w H', Same H H' → Wd A H' w ns → Q (.ref w) H') ∧ BadAt A ns H E
def sp_World___init__ (_ : PySem.W.Frag) (A : Ad) : Sp := Sp2 fun x y H Q E => ∃ (w dx r : Addr) (b : Bool) (ns : List Int), x = .ref w ∧ y = .ref r ∧ H w = some (.ins A.c_World dx []) ∧ LT b H r (ns.map V.int) ∧ ns.length ≤ 1000 ∧
  (fw ns = none → ∀ t H', Ex w H H' → H' w = some (.ins A.c_World dx [("answers", .ref t)]) → H' t = some (.tup (ns.map V.int)) → Q .non H') ∧ BadAt A ns H E
def sp_World_read (_ : PySem.W.Frag) (A : Ad) : Sp := Sp2 fun x y H Q E => ∃ z : Str, x = .ref A.c_World ∧ y = .str z ∧ z.length ≤ 1000 ∧ MkW A (digz z) H Q E
def sp_World_text (_ : PySem.W.Frag) (A : Ad) : Sp := Sp1 fun x H Q _ => ∃ w ns, x = .ref w ∧ Wd A H w ns ∧ fw ns = none ∧ ns.length ≤ 1000 ∧ ∀ H', Same H H' → Q (.str (txt ns)) H'
def sp_World___len__ (_ : PySem.W.Frag) (A : Ad) : Sp := Sp1 fun x H Q _ => ∃ w ns, x = .ref w ∧ Wd A H w ns ∧ Q (.int (ns.length : Nat)) H
def sp_World___iter__ (_ : PySem.W.Frag) (A : Ad) : Sp := Sp1 fun x H Q _ => ∃ (w dx t : Addr) (ns : List Int), x = .ref w ∧ H w = some (.ins A.c_World dx [("answers", .ref t)]) ∧ H t = some (.tup (ns.map V.int)) ∧ ∀ z, H z = none → Q (.ref z) (upd H z (TItO t z 0))

/-! ### comprehensions that map one by one -/
theorem q_yes {σ : L2.St} {H : Hp} {QB : Bool → Hp → Prop} (h : QB true H) : tYes σ H QB := h
theorem lc_map {J : It} {n : Nat} {G : Hp → Prop} {Y : Nat → Hp → V → Hp → Prop} (w : Walk J n G Y) {xs ys : List V} (hx : ∀ i H x H', Y i H x H' → H' = H ∧ xs[i]? = some x) (hn : xs.length = n) (hl : ys.length = n) (hz : ys.length ≤ 1000) {σ : L2.St} {H1 : Hp} {D : Addr} {k : Nat} {te : TE}
    (hD : H1 D = none) (hG : ∀ H, Same H1 H → G H) (hw : ∀ x, wipe ((wipe σ [k]).set k (some x)) [k] = wipe σ [k]) (he : ∀ (i : Nat) (x y : V) (H' : Hp), xs[i]? = some x → ys[i]? = some y → Same H1 H' → Val te ((wipe σ [k]).set k (some x)) H' y) {Qd : Hp → Prop} (kq : Qd (upd H1 D (.lst ys))) :
    ∃ W : Nat → Nat → Hp → Prop, (∃ m, W 0 m (upd H1 D (.lst []))) ∧ ∀ i m H, W i m H →
      (J.stop i H ∧ Qd H) ∨ (J.go i H ∧ ∃ Nx : Hp → Prop, (∀ H', Nx H' → ∃ m', m' < m ∧ W (i + 1) m' H') ∧ ∀ x H', J.yld i H x H' → gName k x (wipe σ [k]) H' fun σ2 H2 => wipe σ2 [k] = wipe σ [k] ∧ tYes σ2 H2 fun b H3 =>
        if b = true then te σ2 H3 fun y H4 => ∃ acc, H4 D = some (.lst acc) ∧ acc.length < sizeLine ∧ Nx (upd H4 D (.lst (acc ++ [y]))) else Nx H3) := by
  refine lc_it w (fun i H => H = upd H1 D (.lst (ys.take i))) (by rw [List.take_zero]) (fun i H _ e => hG H ?_) (fun i x H H' hi e y => ?_) (fun H e => ?_)
  · rw [e]
    exact same_new hD
  · obtain ⟨e1, ex⟩ := hx i H x H' y
    subst e1 e
    have hi' : i < ys.length := by omega
    refine q_name ⟨hw x, q_yes ?_⟩
    refine q_T ?_
    refine he i x ys[i] _ ex (List.getElem?_eq_getElem hi') (same_new hD) _ ⟨_, upd_same, ?_, ?_⟩
    · rw [List.length_take]
      exact Nat.lt_of_le_of_lt (Nat.le_trans (Nat.min_le_right _ _) hz) (by decide)
    · rw [upd_upd, List.take_add_one, List.getElem?_eq_getElem hi']
      rfl
  · subst e
    rw [← hl, List.take_length]
    exact kq
section
variable {K : PySem.W.Frag} {a : Addr} {xs ys : List V} {σ : L2.St} {H : Hp} {k : Nat} {te te0 : TE} {Q : VK}
theorem q_lcT (e : Val te0 σ H (.ref a)) (ha : H a = some (.tup xs)) (hl : ys.length = xs.length) (hz : ys.length ≤ 1000) (hw : ∀ x, wipe ((wipe σ [k]).set k (some x)) [k] = wipe σ [k])
    (he : ∀ (i : Nat) (x y : V) (H' : Hp), xs[i]? = some x → ys[i]? = some y → Same H H' → Val te ((wipe σ [k]).set k (some x)) H' y) (kq : ∀ D, H D = none → Q (.ref D) (upd H D (.lst ys))) : tLc (iAny K te0) (gName k) tYes te [k] σ H Q :=
  Or.inr (Or.inl (e _ ⟨a, rfl, ⟨xs, SqT.of ha⟩, fun D hD => lc_map walk_tup (fun _ _ _ _ y => y) rfl hl hz hD (fun H' s => SqT.of (s _ _ ha)) hw he (kq D hD)⟩))
theorem q_lcL (e : Val te0 σ H (.ref a)) (ha : H a = some (.lst xs)) (hl : ys.length = xs.length) (hz : ys.length ≤ 1000) (hw : ∀ x, wipe ((wipe σ [k]).set k (some x)) [k] = wipe σ [k])
    (he : ∀ (i : Nat) (x y : V) (H' : Hp), xs[i]? = some x → ys[i]? = some y → Same H H' → Val te ((wipe σ [k]).set k (some x)) H' y) (kq : ∀ D, H D = none → Q (.ref D) (upd H D (.lst ys))) : tLc (iAny K te0) (gName k) tYes te [k] σ H Q :=
  Or.inl (e _ ⟨a, rfl, ⟨xs, SqL.of ha⟩, fun D hD => lc_map walk_list (fun _ _ _ _ y => y) rfl hl hz hD (fun H' s => SqL.of (s _ _ ha)) hw he (kq D hD)⟩)
theorem q_lcS {z : Str} (e : Val te0 σ H (.str z)) (hl : ys.length = z.length) (hz : ys.length ≤ 1000) (hw : ∀ x, wipe ((wipe σ [k]).set k (some x)) [k] = wipe σ [k])
    (he : ∀ (i c : Nat) (y : V) (H' : Hp), z.cps.toList[i]? = some c → ys[i]? = some y → Same H H' → Val te ((wipe σ [k]).set k (some (.str ⟨#[c]⟩))) H' y) (kq : ∀ D, H D = none → Q (.ref D) (upd H D (.lst ys))) : tLc (iAny K te0) (gName k) tYes te [k] σ H Q := by
  refine Or.inr (Or.inr (e _ ⟨z, rfl, fun D hD => lc_map (xs := z.cps.toList.map fun c => V.str ⟨#[c]⟩) walk_str (fun i H x H' y => ?_) (by rw [List.length_map, Array.length_toList]) hl hz hD (fun _ _ => True.intro) hw (fun i x y H' hx hy s => ?_) (kq D hD)⟩))
  · obtain ⟨e1, c, hc, ev⟩ := y
    refine ⟨e1, ?_⟩
    rw [List.getElem?_map, Array.getElem?_toList, hc, ev]
    rfl
  · rw [List.getElem?_map] at hx
    obtain ⟨c, hc, rfl⟩ := Option.map_eq_some_iff.mp hx
    exact he i c y H' hc hy s
end
theorem join_one (ls : List Nat) : Txt.join ("" : Str) (ls.map fun c => (⟨#[c]⟩ : Str)) = St8 ls := by
  have e := SX.join_S [] (ls.map fun c => [c])
  rw [List.map_map] at e
  have z : ∀ l : List Nat, TL.joinL [] (l.map fun c => [c]) = l := fun l => by
    induction l with
    | nil => rfl
    | cons c r ih =>
      cases r with
      | nil => rfl
      | cons d r =>
        show [c] ++ ([] ++ TL.joinL [] ((d :: r).map fun c => [c])) = c :: d :: r
        rw [ih]
        rfl
  rw [z] at e
  exact e
theorem sum_one (ls : List Nat) : ((ls.map fun c => (⟨#[c]⟩ : Str)).map (·.length)).sum = ls.length := by
  induction ls with
  | nil => rfl
  | cons c r ih =>
    rw [List.map_cons, List.map_cons, List.sum_cons, ih, List.length_cons]
    show 1 + r.length = _
    omega
/-- "".join of signs -/
theorem q_join1 {K : PySem.W.Frag} {D : Addr} {H : Hp} {Q : VK} {ls : List Nat} (h : H D = some (.lst (ls.map fun c => V.str ⟨#[c]⟩))) (hz : ls.length ≤ 1000) (q : Q (.str (St8 ls)) H) : rJoin K (.str "") [.ref D] H Q := by
  refine ⟨"", D, ls.map fun c => (⟨#[c]⟩ : Str), rfl, rfl, .inl (SqL.of (by rw [List.map_map]; exact h)), ?_, ?_⟩
  · rw [sum_one, List.length_map]
    show ls.length + ls.length * 0 ≤ _
    omega
  · rw [join_one]
    exact q
theorem inV01 (n : Int) : inV (.int n) [.int 0, .int 1] = decide (Gd n) := by
  unfold inV
  simp only [List.any_cons, List.any_nil, Bool.or_false, eqV]
  by_cases h0 : n = 0
  · subst h0; rfl
  · by_cases h1 : n = 1
    · subst h1; rfl
    · have e0 : ((0 : Int) == n) = false := by simpa using fun e => h0 e.symm
      have e1 : ((1 : Int) == n) = false := by simpa using fun e => h1 e.symm
      rw [e0, e1, decide_eq_false (fun z : Gd n => z.elim h0 h1)]
      rfl
theorem map_at {ns : List Int} {i : Nat} {x : V} (h : (ns.map V.int)[i]? = some x) : ∃ n, ns[i]? = some n ∧ x = .int n := by
  rw [List.getElem?_map] at h
  obtain ⟨n, e, r⟩ := Option.map_eq_some_iff.mp h
  exact ⟨n, e, r.symm⟩
/-! ### the program's worlds -/
def t_World___init__ (K : PySem.W.Frag) (A : Ad) (E : XK) : TS :=
  (tSeq (tFor (iEnumA K (tCons (tVar 1) tNil)) (gTup K 2 (gCons (gName 2) (gCons (gName 3) gNil)))
  (tIfS (tTest (tOp (oNotIn K) (tVar 3) (tTup (tCons (tC (.int 0)) (tCons (tC (.int 1)) tNil)))))
  (tRaiseE A.c_BadWorld "at" (fun cls d _ H => E cls d H) (tCons (tVar 2) tNil))
  tNext))
  (sFldC A.c_World "answers" (tVar 0) (tCB (cTupX K) (tCons (tVar 1) tNil))))
theorem pure_World___init__ {K : PySem.W.Frag} {A : Ad} {vs : List V} {H : Hp} {Q : VK} {E : XK} (h : sp_World___init__ K A vs H Q E) : t_World___init__ K A E { nx := fun _ H' => Q .non H', rt := Q } (start ["self", "answers", "at", "answer"] vs) H := by
  obtain ⟨_, _, rfl, w, dx, r, b, ns, rfl, rfl, hw, hr, hl, k, kE⟩ := h
  unfold t_World___init__
  refine q_seq ?_
  refine q_forEV (K := K) (b := b) (a := r) (xs := ns.map V.int) rfl (fun i σ H' => (∀ j y, j < i → ns[j]? = some y → Gd y) ∧ Same H H' ∧ ∃ v2 v3, σ = [some (.ref w), some (.ref r), v2, v3])
    ⟨fun j y hj => absurd hj (Nat.not_lt_zero _), Same.refl _, none, none, rfl⟩ (fun i σ H' _ p => LT.sq (p.2.1 _ _ hr)) ?_ ?_
  · rintro i x σ H' T hx ⟨hg, s, v2, v3, rfl⟩ hT
    obtain ⟨n, hn, rfl⟩ := map_at hx
    refine ⟨T, _, rfl, SqT.of upd_same, rfl, _, _, rfl, q_name ⟨_, _, rfl, q_name ⟨rfl, ?_⟩⟩⟩
    have s1 := s.trans (same_new (o := .tup [.int (i : Nat), .int n]) hT)
    refine q_ifS (q_test (q_op (q_var rfl (q_tup (q_cons (q_c (q_cons (q_c (q_nil ⟨by show 2 ≤ sizeLine; decide, fun g hg' => Or.inl ⟨g, [.int 0, .int 1], rfl, .inr (SqT.of upd_same), rfl, rfl, ?_⟩⟩)))))))))
    have s2 := s1.trans (same_new (o := .tup [.int 0, .int 1]) hg')
    rw [if_pos rfl, inV01]
    refine ⟨_, rfl, q_ndec (fun bad => ?_) (fun good => ?_)⟩
    · refine q_raise (q_cons (q_var rfl (q_nil ⟨_, rfl, fun d hd => ?_⟩)))
      exact kE i (fw_at hn bad hg) d _ (s2.trans (same_new hd)) upd_same
    · refine q_next ⟨fun j y hj hy => ?_, s2, _, _, rfl⟩
      rcases Nat.lt_or_ge j i with hlt | hge
      · exact hg j y hlt hy
      · have e : j = i := by omega
        rw [e, hn] at hy
        cases hy
        exact good
  · rintro σ H' ⟨hg, s, v2, v3, rfl⟩
    rw [List.length_map] at hg
    have g0 : fw ns = none := fw_none fun x hx => by
      obtain ⟨j, hj, e⟩ := List.getElem_of_mem hx
      exact hg j x hj (by rw [List.getElem?_eq_getElem hj, e])
    refine q_sfldC (q_cb (q_cons (q_var rfl (q_nil ?_))))
    have fin : ∀ t H2, Same H' H2 → H2 t = some (.tup (ns.map V.int)) → tVar 0 [some (.ref w), some (.ref r), v2, v3] H2 fun x H2 => ∃ a dx fs, x = .ref a ∧ H2 a = some (.ins A.c_World dx fs) ∧ fs.length < 1000 ∧ Q .non (upd H2 a (.ins A.c_World dx (putF "answers" (.ref t) fs))) := fun t H2 s2 ht => by
      have hw2 := s2 _ _ (s _ _ hw)
      refine q_var rfl ⟨w, dx, [], rfl, hw2, by decide, k g0 t _ (fun a o n e => by rw [upd_ne n]; exact s2 _ _ (s _ _ e)) upd_same ?_⟩
      rw [upd_ne (ne_of ht hw2 (fun z => nomatch z))]
      exact ht
    cases b with
    | true => exact ⟨r, _, rfl, .inl ⟨SqL.of (s _ _ hr), fun l hl' => fin l _ (same_new hl') upd_same⟩⟩
    | false => exact ⟨r, _, rfl, .inr ⟨SqT.of (s _ _ hr), fin r _ (Same.refl _) (s _ _ hr)⟩⟩
def t_World___len__ (K : PySem.W.Frag) (A : Ad) : TS :=
  (tRet (tCB (cLen K) (tCons (tFldC A.c_World "answers" (tVar 0)) tNil)))
theorem pure_World___len__ {K : PySem.W.Frag} {A : Ad} {vs : List V} {H : Hp} {Q : VK} {E : XK} (h : sp_World___len__ K A vs H Q E) : t_World___len__ K A { nx := fun _ H' => Q .non H', rt := Q } (start ["self"] vs) H := by
  obtain ⟨_, rfl, w, ns, rfl, ⟨dx, t, hw, ht⟩, k⟩ := h
  unfold t_World___len__
  refine q_ret (q_cb (q_cons (q_fldC (q_var rfl ⟨w, dx, _, _, rfl, hw, wl1, q_nil (q_lenT ht ?_)⟩))))
  rw [List.length_map]
  exact k
def t_World___iter__ (K : PySem.W.Frag) (A : Ad) : TS :=
  (tRet (tCB (rIterT K) (tCons (tFldC A.c_World "answers" (tVar 0)) tNil)))
theorem pure_World___iter__ {K : PySem.W.Frag} {A : Ad} {vs : List V} {H : Hp} {Q : VK} {E : XK} (h : sp_World___iter__ K A vs H Q E) : t_World___iter__ K A { nx := fun _ H' => Q .non H', rt := Q } (start ["self"] vs) H := by
  obtain ⟨_, rfl, w, dx, t, ns, rfl, hw, ht, k⟩ := h
  unfold t_World___iter__
  exact q_ret (q_cb (q_cons (q_fldC (q_var rfl ⟨w, dx, _, _, rfl, hw, wl1, q_nil ⟨t, _, rfl, SqT.of ht, k⟩⟩))))
def t_World_text (K : PySem.W.Frag) (A : Ad) : TS :=
  (tRet (tM1 (rJoin K) (tC (.str "")) (tLc (iAny K (tFldC A.c_World "answers" (tVar 0))) (gName 1) tYes (tOp (oIx K) (tC g_DIGITS) (tVar 1)) [1])))
theorem va_fld {A : Ad} {K : PySem.W.Frag} {σ : L2.St} {H : Hp} {i : Nat} {w dx t : Addr} (e : σ[i]? = some (some (.ref w))) (hw : H w = some (.ins A.c_World dx [("answers", .ref t)])) : Val (tFldC A.c_World "answers" (tVar i)) σ H (.ref t) := fun Q q => q_fldC (q_var e ⟨w, dx, _, _, rfl, hw, wl1, q⟩)
theorem sgn_ix {n : Int} (g : Gd n) : atI ("01" : Str).cps.toList n = some (sgn n) := by
  rcases g with rfl | rfl
  · decide +kernel
  · decide +kernel
theorem pure_World_text {K : PySem.W.Frag} {A : Ad} {vs : List V} {H : Hp} {Q : VK} {E : XK} (h : sp_World_text K A vs H Q E) : t_World_text K A { nx := fun _ H' => Q .non H', rt := Q } (start ["self", "answer"] vs) H := by
  obtain ⟨_, rfl, w, ns, rfl, ⟨dx, t, hw, ht⟩, g, hl, k⟩ := h
  unfold t_World_text
  refine q_ret (q_m1 (q_c ⟨⟨_, rfl⟩, ?_⟩))
  refine q_lcT (ys := (ns.map sgn).map fun c => V.str ⟨#[c]⟩) (va_fld (A := A) (K := K) rfl hw) ht (by simp) (by simp; exact hl) (fun _ => rfl) (fun i x y H' hx hy s => ?_) fun D hD => ?_
  · obtain ⟨n, hn, rfl⟩ := map_at hx
    have gn : Gd n := fw_good g n (List.mem_of_getElem? hn)
    have ey : y = .str ⟨#[sgn n]⟩ := by
      rw [List.map_map, List.getElem?_map, hn] at hy
      exact (Option.some.inj hy).symm
    subst ey
    exact va_ixS va_c (va_var rfl) (by decide +kernel) (sgn_ix gn)
  · exact q_join1 upd_same (by rw [List.length_map]; exact hl) (k _ (same_new hD))
theorem va_isW {A : Ad} {K : PySem.W.Frag} {σ : L2.St} {H : Hp} {i : Nat} {w : Addr} {ns : List Int} (TX : Caught K A) (e : σ[i]? = some (some (.ref w))) (hw : Wd A H w ns) : Val (tCB (cIsiO K) (tCons (tVar i) (tCons (tC (.ref A.c_World)) tNil))) σ H (.bl true) := fun Q q => by
  obtain ⟨dx, t, h1, h2⟩ := hw
  exact q_cb (q_cons (q_var e (q_cons (q_c (q_nil (q_isO true h1 TX.o_World TX.io_World q))))))
def t_World_read (K : PySem.W.Frag) (A : Ad) (E : XK) : TS :=
  (tRet (tMakeV 0 A.c_World (sp_World___init__ K A) (fun _ => E) (tCons (tLc (iAny K (tVar 1)) (gName 2) tYes (tM1 rFind (tC g_DIGITS) (tVar 2)) [2]) tNil)))
theorem find01 (c : Nat) : Txt.find ("01" : Str) ⟨#[c]⟩ = dig c := by
  by_cases h0 : c = 48
  · subst h0; decide +kernel
  · by_cases h1 : c = 49
    · subst h1; decide +kernel
    · have e := PySem.StrLaws.found_one ("01" : Str) c
      have n : ¬ c ∈ ("01" : Str).cps.toList := fun z => by
        have z' : c ∈ [48, 49] := z
        simp at z'
        exact z'.elim h0 h1
      rw [decide_eq_false n] at e
      unfold dig
      rw [if_neg h0, if_neg h1]
      unfold Txt.find
      cases q : Builtin.Str.occurrences ("01" : Str) ⟨#[c]⟩ 0 ("01" : Str).length 1 with
      | nil => rfl
      | cons i r => rw [q] at e; cases e
theorem pure_World_read {K : PySem.W.Frag} {A : Ad} {vs : List V} {H : Hp} {Q : VK} {E : XK} (h : sp_World_read K A vs H Q E) : t_World_read K A E { nx := fun _ H' => Q .non H', rt := Q } (start ["cls", "text", "digit"] vs) H := by
  obtain ⟨_, _, rfl, z, rfl, rfl, hl, k, kE⟩ := h
  unfold t_World_read
  refine q_ret (q_makeV rfl (q_makeS (q_cons ?_)))
  refine q_lcS (ys := (digz z).map V.int) (va_var rfl) (by rw [List.length_map, digz_len]) (by rw [List.length_map, digz_len]; exact hl) (fun _ => rfl) (fun i c y H' hc hy s => ?_) fun D hD => ?_
  · have ey : y = .int (dig c) := by
      unfold digz at hy
      rw [List.map_map, List.getElem?_map, hc] at hy
      exact (Option.some.inj hy).symm
    subst ey
    refine fun Q' q => q_m1 (q_c ⟨⟨_, rfl⟩, q_var rfl ⟨_, _, rfl, rfl, ?_⟩⟩)
    rw [find01]
    exact q
  · refine q_nil fun x dx hx hdx hne => ?_
    have sD := same_new (o := .lst ((digz z).map V.int)) hD
    have sx : Same (upd H D (.lst ((digz z).map V.int))) (upd (upd (upd H D (.lst ((digz z).map V.int))) dx (.own x)) x (.ins A.c_World dx [])) := (same_new hdx).trans (same_new (by rw [upd_ne (Ne.symm hne)]; exact hx))
    refine ⟨_, _, rfl, x, dx, D, true, digz z, rfl, rfl, upd_same, sx _ _ upd_same, by rw [digz_len]; exact hl, fun g t H' ex hx' ht => ⟨rfl, k g x H' (fun a o e => ?_) ⟨dx, t, hx', ht⟩⟩, fun i e d H' s hd => kE i e d H' ((sD.trans sx).trans s) hd⟩
    have h1 := sD _ _ e
    exact ex a o (ne_of_none h1 hx) (sx _ _ h1)

theorem Val.to {σ : L2.St} {H : Hp} {te : TE} {v v' : V} (h : Val te σ H v) (e : v = v') : Val te σ H v' := e ▸ h

theorem rpA_ints {H : Hp} : ∀ ns : List Int, RpA H (ns.map V.int) (ns.map PyData.int)
  | [] => .nil
  | n :: r => .cons (.int n) (rpA_ints r)
theorem rp_lst {H : Hp} {a : Addr} {ns : List Int} (h : H a = some (.lst (ns.map V.int))) (hl : ns.length ≤ 1000) : Rp H (.ref a) (.list (ns.map PyData.int)) := .lst h (by rw [List.length_map]; omega) (rpA_ints ns)
theorem rp_tup {H : Hp} {a : Addr} {ns : List Int} (h : H a = some (.tup (ns.map V.int))) (hl : ns.length ≤ 1000) : Rp H (.ref a) (.tuple (ns.map PyData.int)) := .tup h (by rw [List.length_map]; omega) (rpA_ints ns)
theorem dep_lst (ns : List Int) : (PyData.list (ns.map PyData.int)).depth < 6 := by
  have := depK ns
  simp only [PyData.depth]
  omega
theorem dep_tup (ns : List Int) : (PyData.tuple (ns.map PyData.int)).depth < 6 := by
  have := depK ns
  simp only [PyData.depth]
  omega
theorem q_prpW {A : Ad} {K : PySem.W.Frag} {te : TE} {σ : L2.St} {H : Hp} {Q : VK} {w : Addr} {ns : List Int} (e : Val te σ H (.ref w)) (hw : Wd A H w ns) (g : fw ns = none) (hl : ns.length ≤ 1000) (k : ∀ H', Same H H' → Q (.str (txt ns)) H') : tProp A.c_World (sp_World_text K A) [] E0 te σ H Q := by
  obtain ⟨dx, t, h1, h2⟩ := hw
  exact q_prp (e _ ⟨w, dx, _, rfl, h1, _, rfl, w, ns, rfl, ⟨dx, t, h1, h2⟩, g, hl, k⟩)
theorem q_lenW {A : Ad} {K : PySem.W.Frag} {H : Hp} {Q : VK} {w : Addr} {ns : List Int} (hw : Wd A H w ns) (hl : ns.length ≤ 1000) (k : Q (.int (ns.length : Nat)) H) : cLenO A.c_World (sp_World___len__ K A) E0 [.ref w] H Q := by
  obtain ⟨dx, t, h1, h2⟩ := hw
  exact ⟨w, dx, _, rfl, h1, _, rfl, w, ns, rfl, ⟨dx, t, h1, h2⟩, ns.length, rfl, sz1000 (by omega), k⟩
theorem q_listW {A : Ad} {K : PySem.W.Frag} {H : Hp} {Q : VK} {w : Addr} {ns : List Int} (hw : Wd A H w ns) (hl : ns.length ≤ 1000) (k : ∀ q, H q = none → Q (.ref q) (upd H q (.lst (ns.map V.int)))) : rListO K A.c_World (sp_World___iter__ K A) (sp_World___len__ K A) [.ref w] H Q := by
  obtain ⟨dx, t, h1, h2⟩ := hw
  refine ⟨w, dx, _, rfl, h1, fun q hq => ?_⟩
  have s1 := same_new (o := .lst []) hq
  refine ⟨_, rfl, w, dx, t, ns, rfl, s1 _ _ h1, s1 _ _ h2, fun z hz => ?_⟩
  have s2 := s1.trans (same_new (o := TItO t z 0) hz)
  refine ⟨z, t, _, rfl, upd_same, SqT.of (s2 _ _ h2), by rw [List.length_map]; exact Nat.lt_of_le_of_lt hl (by decide), ?_, ⟨dx, _, s2 _ _ h1⟩, ⟨_, rfl, w, ns, rfl, ⟨dx, t, s2 _ _ h1, s2 _ _ h2⟩, ns.length, rfl, sz1000 (by omega), rfl⟩, ?_⟩
  · rw [upd_ne (ne_of_none upd_same hz), upd_same]
  · rw [ItX.dropH_upd hz, upd_upd]
    exact k q hq
theorem str01 {n : Int} (g : Gd n) : ((toString n : String) : Str) = ⟨#[sgn n]⟩ := by
  rcases g with rfl | rfl
  · decide +kernel
  · decide +kernel
/-- "".join([str(answer) for answer in row]) -/
theorem q_textL {K : PySem.W.Frag} {σ : L2.St} {H : Hp} {Q : VK} {i j : Nat} {r : Addr} {ns : List Int} (e : σ[i]? = some (some (.ref r))) (hr : H r = some (.lst (ns.map V.int))) (g : fw ns = none) (hl : ns.length ≤ 1000) (hw : ∀ x, wipe ((wipe σ [j]).set j (some x)) [j] = wipe σ [j])
    (hj : ∀ x : V, ((wipe σ [j]).set j (some x))[j]? = some (some x)) (k : ∀ H', Same H H' → Q (.str (txt ns)) H') : tM1 (rJoin K) (tC (.str "")) (tLc (iAny K (tVar i)) (gName j) tYes (tCB cStr (tCons (tVar j) tNil)) [j]) σ H Q := by
  refine q_m1 (q_c ⟨⟨_, rfl⟩, ?_⟩)
  refine q_lcL (ys := (ns.map sgn).map fun c => V.str ⟨#[c]⟩) (va_var e) hr (by simp) (by simp; exact hl) hw (fun i x y H' hx hy s => ?_) fun D hD => q_join1 upd_same (by rw [List.length_map]; exact hl) (k _ (same_new hD))
  obtain ⟨n, hn, rfl⟩ := map_at hx
  have gn : Gd n := fw_good g n (List.mem_of_getElem? hn)
  have ey : y = .str ⟨#[sgn n]⟩ := by
    rw [List.map_map, List.getElem?_map, hn] at hy
    exact (Option.some.inj hy).symm
  subst ey
  refine fun Q' q => q_cb (q_cons (q_var (hj _) (q_nil ⟨n, rfl, ?_, ?_⟩)))
  · rcases gn with rfl | rfl <;> decide
  · rw [str01 gn]
    exact q

theorem ints_of : ∀ {xs : List V}, (∀ x ∈ xs, ∃ z, x = V.int z) → ∃ ms : List Int, xs = ms.map V.int
  | [], _ => ⟨[], rfl⟩
  | x :: r, h => by
    obtain ⟨z, rfl⟩ := h x List.mem_cons_self
    obtain ⟨ms, rfl⟩ := ints_of (xs := r) fun y hy => h y (List.mem_cons_of_mem _ hy)
    exact ⟨z :: ms, rfl⟩
theorem cut_ints (ns : List Int) (lo hi : Option Int) : ∃ ms : List Int, cutV (ns.map V.int) lo hi = ms.map V.int ∧ ms.length ≤ ns.length := by
  obtain ⟨ms, e⟩ := ints_of (xs := cutV (ns.map V.int) lo hi) fun x hx => by
    unfold cutV at hx
    obtain ⟨z, _, e⟩ := List.mem_map.mp (List.mem_of_mem_drop (List.mem_of_mem_take hx))
    exact ⟨z, e.symm⟩
  refine ⟨ms, e, ?_⟩
  have := cutV_length (ns.map V.int) lo hi
  rw [e, List.length_map, List.length_map] at this
  exact this
theorem Pool.same {H H' : Hp} {p : Addr} (P : Pool H p) (s : Same H H') : Pool H' p := by
  obtain ⟨l, cs, a, b, c, d, hp, hl, ne, h⟩ := P
  exact ⟨l, cs, a, b, c, d, s _ _ hp, s _ _ hl, ne, h⟩
theorem Dw.sm {H H' : Hp} {p : Addr} (P : Pool H p) (s : Same H H') : Dw p H H' := ⟨P.same s, Ex.same s, fun l r h => ⟨r, s _ _ h⟩⟩
theorem ne_pool {H : Hp} {p q : Addr} (P : Pool H p) (h : H q = none) : q ≠ p := fun z => by
  obtain ⟨xs, e⟩ := pool_at P
  rw [z, e] at h
  cases h
theorem sqL_to {K : PySem.W.Frag} {H H' : Hp} {a : Addr} {xs : List V} (h : SqL K H a xs) (k : ∀ o, H a = some o → H' a = some o) : SqL K H' a xs := h.elim (fun r => .inl (r.elim (fun e => .inl (k _ e)) fun ⟨o, e⟩ => .inr ⟨o, k _ e⟩)) .inr
theorem q_lcR {al : TA} {g : TG} {tt : TT} {te : TE} {us : List Nat} {σ : L2.St} {H : Hp} {Q : VK} (h : al σ H fun vs H1 => ∃ n : Int, vs = [.int n] ∧ -(2 ^ 62) ≤ n ∧ n < 2 ^ 62 ∧ ∀ D, H1 D = none → ∃ W : Nat → Nat → Hp → Prop, (∃ m, W 0 m (upd H1 D (.lst []))) ∧ ∀ i m H, W i m H →
      ((Itr 0 n.toNat).stop i H ∧ Q (.ref D) H) ∨ ((Itr 0 n.toNat).go i H ∧ ∃ Nx : Hp → Prop, (∀ H', Nx H' → ∃ m', m' < m ∧ W (i + 1) m' H') ∧ ∀ x H', (Itr 0 n.toNat).yld i H x H' → g x (wipe σ us) H' fun σ2 H2 => wipe σ2 us = wipe σ us ∧ tt σ2 H2 fun b H3 =>
        if b = true then te σ2 H3 fun y H4 => ∃ acc, H4 D = some (.lst acc) ∧ acc.length < sizeLine ∧ Nx (upd H4 D (.lst (acc ++ [y]))) else Nx H3)) : tLc (iRng1 al) g tt te us σ H Q := h

/-! ### the order of rows -/
abbrev pl : Int → Int → Bool := fun i j => decide (i < j)
def wless (ns ms : List Int) : Bool := kcmp pl false ns ms
theorem lexp_gt : ∀ (z : Bool) (ns ms : List Int), lexp (fun i j => decide (j < i)) z ns ms = lexp pl z ms ns
  | z, [], [] => rfl
  | z, [], _ :: _ => rfl
  | z, _ :: _, [] => rfl
  | z, x :: xs, y :: ys => by
    show (if x = y then _ else _) = if y = x then _ else _
    by_cases h : x = y
    · rw [if_pos h, if_pos h.symm]
      exact lexp_gt z xs ys
    · rw [if_neg h, if_neg fun e => h e.symm]
theorem lexp_le : ∀ ns ms : List Int, lexp (fun i j => decide (i ≤ j)) true ns ms = !lexp pl false ms ns
  | [], [] => rfl
  | [], _ :: _ => rfl
  | _ :: _, [] => rfl
  | x :: xs, y :: ys => by
    show (if x = y then _ else _) = !(if y = x then _ else _)
    by_cases h : x = y
    · rw [if_pos h, if_pos h.symm]
      exact lexp_le xs ys
    · rw [if_neg h, if_neg fun e => h e.symm]
      by_cases h2 : x ≤ y
      · show decide (x ≤ y) = _
        rw [decide_eq_true h2, show pl y x = false from decide_eq_false (by omega)]
        rfl
      · show decide (x ≤ y) = _
        rw [decide_eq_false h2, show pl y x = true from decide_eq_true (by omega)]
        rfl
theorem lexp_ge (ns ms : List Int) : lexp (fun i j => decide (j ≤ i)) true ns ms = !lexp pl false ns ms := by
  have h : ∀ ns ms : List Int, lexp (fun i j => decide (j ≤ i)) true ns ms = lexp (fun i j => decide (i ≤ j)) true ms ns := fun ns => by
    induction ns with
    | nil => intro ms; cases ms <;> rfl
    | cons x xs ih =>
      intro ms
      cases ms with
      | nil => rfl
      | cons y ys =>
        show (if x = y then _ else _) = if y = x then _ else _
        by_cases h : x = y
        · rw [if_pos h, if_pos h.symm]
          exact ih ys
        · rw [if_neg h, if_neg fun e => h e.symm]
  rw [h, lexp_le]
theorem k_gt (ns ms : List Int) : kcmp (fun i j => decide (j < i)) false ns ms = wless ms ns := by
  unfold wless kcmp
  by_cases h : ns.length = ms.length
  · rw [if_pos h, if_pos h.symm, lexp_gt]
  · rw [if_neg h, if_neg fun e => h e.symm]
theorem k_le (ns ms : List Int) : kcmp (fun i j => decide (i ≤ j)) true ns ms = !wless ms ns := by
  unfold wless kcmp
  by_cases h : ns.length = ms.length
  · rw [if_pos h, if_pos h.symm, lexp_le]
  · rw [if_neg h, if_neg fun e => h e.symm]
    by_cases h2 : (ns.length : Int) ≤ ms.length
    · show decide ((ns.length : Int) ≤ ms.length) = _
      rw [decide_eq_true h2, show pl ms.length ns.length = false from decide_eq_false (by omega)]
      rfl
    · show decide ((ns.length : Int) ≤ ms.length) = _
      rw [decide_eq_false h2, show pl ms.length ns.length = true from decide_eq_true (by omega)]
      rfl
theorem k_ge (ns ms : List Int) : kcmp (fun i j => decide (j ≤ i)) true ns ms = !wless ns ms := by
  unfold wless kcmp
  by_cases h : ns.length = ms.length
  · rw [if_pos h, if_pos h, lexp_ge]
  · rw [if_neg h, if_neg h]
    by_cases h2 : (ms.length : Int) ≤ ns.length
    · show decide ((ms.length : Int) ≤ ns.length) = _
      rw [decide_eq_true h2, show pl ns.length ms.length = false from decide_eq_false (by omega)]
      rfl
    · show decide ((ms.length : Int) ≤ ns.length) = _
      rw [decide_eq_false h2, show pl ns.length ms.length = true from decide_eq_true (by omega)]
      rfl
theorem lexp_tri : ∀ ns ms : List Int, ns.length = ms.length → decide (ns = ms) = (!lexp pl false ns ms && !lexp pl false ms ns)
  | [], [], _ => rfl
  | [], _ :: _, h => by cases h
  | _ :: _, [], h => by cases h
  | x :: xs, y :: ys, h => by
    show _ = (!(if x = y then _ else _) && !(if y = x then _ else _))
    by_cases e : x = y
    · subst e
      rw [if_pos rfl, if_pos rfl, ← lexp_tri xs ys (by simpa using h)]
      simp
    · rw [if_neg e, if_neg fun z => e z.symm, decide_eq_false fun z => e (List.cons.inj z).1]
      by_cases h2 : x < y
      · rw [show pl x y = true from decide_eq_true h2]
        rfl
      · rw [show pl y x = true from decide_eq_true (by omega), Bool.not_true, Bool.and_false]
theorem w_tri (ns ms : List Int) : decide (ns = ms) = (!wless ns ms && !wless ms ns) := by
  unfold wless kcmp
  by_cases h : ns.length = ms.length
  · rw [if_pos h, if_pos h.symm]
    exact lexp_tri ns ms h
  · rw [if_neg h, if_neg fun e => h e.symm, decide_eq_false fun z => h (by rw [z])]
    by_cases h2 : (ns.length : Int) < ms.length
    · rw [show pl ns.length ms.length = true from decide_eq_true h2]
      rfl
    · rw [show pl ms.length ns.length = true from decide_eq_true (by omega), Bool.not_true, Bool.and_false]
theorem lexp_self (p : Int → Int → Bool) (z : Bool) : ∀ ns : List Int, lexp p z ns ns = z
  | [] => rfl
  | x :: xs => by
    show (if x = x then _ else _) = z
    rw [if_pos rfl]
    exact lexp_self p z xs
theorem lexp_at (p : Int → Int → Bool) (z : Bool) : ∀ {ns ms : List Int} {i : Nat} {x y : Int}, ns[i]? = some x → ms[i]? = some y → (∀ j, j < i → ns[j]? = ms[j]?) → x ≠ y → lexp p z ns ms = p x y
  | [], _, _, _, _, h, _, _, _ => by cases h
  | _ :: _, [], _, _, _, _, h, _, _ => by cases h
  | n :: ns, m :: ms, 0, x, y, h1, h2, _, ne => by
    cases h1
    cases h2
    show (if n = m then _ else _) = _
    rw [if_neg ne]
  | n :: ns, m :: ms, i + 1, x, y, h1, h2, hj, ne => by
    have e : n = m := Option.some.inj (hj 0 (by omega))
    show (if n = m then _ else _) = _
    rw [if_pos e]
    exact lexp_at p z (i := i) h1 h2 (fun j hj' => hj (j + 1) (by omega)) ne
theorem cut_ints2 (ns : List Int) (lo hi : Option Int) : ∃ ms : List Int, cutV (ns.map V.int) lo hi = ms.map V.int ∧ ms.length ≤ ns.length ∧ ∀ x ∈ ms, x ∈ ns := by
  obtain ⟨ms, e, h⟩ := cut_ints ns lo hi
  refine ⟨ms, e, h, fun x hx => ?_⟩
  have : V.int x ∈ cutV (ns.map V.int) lo hi := by rw [e]; exact List.mem_map.mpr ⟨x, hx, rfl⟩
  unfold cutV at this
  obtain ⟨z, hz, ez⟩ := List.mem_map.mp (List.mem_of_mem_drop (List.mem_of_mem_take this))
  injection ez with ez
  rw [← ez]
  exact hz
section
variable {K : PySem.W.Frag} {H : Hp} {Q : VK} {a b : Addr} {ns ms : List Int}
theorem q_addInts (ha : H a = some (.lst (ns.map V.int))) (hb : H b = some (.lst (ms.map V.int))) (h : ns.length + ms.length ≤ 100000) (k : ∀ r, H r = none → Q (.ref r) (upd H r (.lst ((ns ++ ms).map V.int)))) : oAdd K (.ref a) (.ref b) H Q :=
  q_addL ha hb (by rw [List.length_map, List.length_map]; exact sz1000 h) fun r hr => by
    have := k r hr
    rw [List.map_append] at this
    exact this
theorem q_cutInts {lo hi : Option Int} (ha : H a = some (.lst (ns.map V.int))) (k : ∀ (t : Addr) (xs : List Int), H t = none → (∀ x ∈ xs, x ∈ ns) → xs.length ≤ ns.length → Q (.ref t) (upd H t (.lst (xs.map V.int)))) : oSl K (.ref a) lo hi H Q := by
  obtain ⟨xs, e, hl, hm⟩ := cut_ints2 ns lo hi
  refine Or.inl ⟨a, _, rfl, SqL.of ha, fun t ht => ?_⟩
  rw [e]
  exact k t xs ht hm hl
end
theorem ne_ints {H : Hp} {p q : Addr} {ms : List Int} (P : Pool H p) (h : H q = some (.lst (ms.map V.int))) : q ≠ p := fun z => by
  obtain ⟨l, cs, a, b, c, d, hp, _⟩ := P
  rw [z, hp] at h
  cases ms with
  | nil => cases h
  | cons m r => cases h
/-- [draw(2) for k in range(draw(n))] -/
theorem q_rowOf {K : PySem.W.Frag} {A : Ad} {σ : L2.St} {H : Hp} {Q : VK} {i k : Nat} {p : Addr} {n : Int} (P : Pool H p) (hn : 0 < n) (hn2 : n ≤ 1000) (e : σ[i]? = some (some (.ref p))) (ew : ∀ x, ((wipe σ [k]).set k x)[i]? = some (some (.ref p))) (hw : ∀ x : V, wipe ((wipe σ [k]).set k (some x)) [k] = wipe σ [k])
    (kq : ∀ (D : Addr) (ms : List Int) H', Dw p H H' → H' D = some (.lst (ms.map V.int)) → (∀ x ∈ ms, Gd x) → (ms.length : Int) < n → Q (.ref D) H') :
    tLc (iRng1 (tCons (tCall (sp__law_draw K A) [] E0 (tCons (tVar i) (tCons (tC (.int n)) tNil))) tNil)) (gName k) tYes (tCall (sp__law_draw K A) [] E0 (tCons (tVar i) (tCons (tC (.int 2)) tNil))) [k] σ H Q := by
  refine q_lcR ?_
  refine q_cons (q_call (q_cons (q_var e (q_cons (q_c (q_nil (s2 ⟨p, n, rfl, rfl, hn, by omega, P, fun c H2 c0 c1 D1 => q_nil ⟨c, rfl, by omega, by omega, fun D hD => ?_⟩⟩)))))))
  have nDp := ne_pool D1.1 hD
  have hD1 : H D = none := by rw [← D1.2.at_ D nDp]; exact hD
  refine lc_range (fun i H' => Dw p H H' ∧ POff H' p D ∧ ∃ ms : List Int, H' D = some (.lst (ms.map V.int)) ∧ ms.length = i ∧ ∀ x ∈ ms, Gd x) ⟨(Dw.of D1).trans (Dw.new D1.1 hD), (POff.new D1.1 hD).upd nDp, [], upd_same, rfl, fun x hx => by cases hx⟩ ?_ ?_
  · rintro i H' hi ⟨W, po, ms, hm, hl, hg⟩
    refine q_name ⟨hw _, q_yes ?_⟩
    refine q_T ?_
    refine q_call (q_cons (q_var (ew _) (q_cons (q_c (q_nil (s2 ⟨p, 2, rfl, rfl, by decide, by decide, W.pool, fun n H3 n0 n1 D3 => ?_⟩))))))
    have W3 := Dw.of D3
    have po3 := po.dw W.pool W3
    refine ⟨_, D3.2.to hm nDp, by rw [List.length_map]; exact Nat.lt_of_lt_of_le (show ms.length < 1000 by omega) (by decide), ⟨W3.pool.at_off po3 nDp, fun b o n e => ?_, fun l r e => ?_⟩, po3.upd nDp, ms ++ [n], by rw [upd_same, List.map_append]; rfl, by rw [List.length_append, hl]; rfl, fun x hx => ?_⟩
    · rw [upd_ne (ne_of_none e hD1)]
      exact W3.ex b o n (W.ex b o n e)
    · obtain ⟨r', e'⟩ := (W.hd.trans W3.hd) l r e
      exact ⟨r', by rw [upd_ne (Ne.symm nDp)]; exact e'⟩
    · rcases List.mem_append.mp hx with hx | hx
      · exact hg x hx
      · have ex : x = n := by simpa using hx
        rw [ex]
        exact (show n = 0 ∨ n = 1 by omega)
  · rintro H3 ⟨W, po, ms, hm, hl, hg⟩
    exact kq D ms H3 W hm hg (by omega)
def sp_World___eq__ (_ : PySem.W.Frag) (A : Ad) : Sp := Sp2 fun x y H Q _ => ∃ w u ns ms, x = .ref w ∧ y = .ref u ∧ Wd A H w ns ∧ Wd A H u ms ∧ ns.length ≤ 1000 ∧ ms.length ≤ 1000 ∧ ∀ H', Same H H' → Q (.bl (decide (ns = ms))) H'
def spCmp (p : Int → Int → Bool) (z : Bool) (A : Ad) : Sp := Sp2 fun x y H Q _ => ∃ w u ns ms, x = .ref w ∧ y = .ref u ∧ Wd A H w ns ∧ Wd A H u ms ∧ ∀ H', Same H H' → Q (.bl (kcmp p z ns ms)) H'
abbrev sp_World___lt__ (_ : PySem.W.Frag) (A : Ad) : Sp := spCmp (fun i j => decide (i < j)) false A
abbrev sp_World___gt__ (_ : PySem.W.Frag) (A : Ad) : Sp := spCmp (fun i j => decide (j < i)) false A
abbrev sp_World___le__ (_ : PySem.W.Frag) (A : Ad) : Sp := spCmp (fun i j => decide (i ≤ j)) true A
abbrev sp_World___ge__ (_ : PySem.W.Frag) (A : Ad) : Sp := spCmp (fun i j => decide (j ≤ i)) true A
def sp_World___add__ (_ : PySem.W.Frag) (A : Ad) : Sp := Sp2 fun x y H Q _ => ∃ w u ns ms, x = .ref w ∧ y = .ref u ∧ Wd A H w ns ∧ Wd A H u ms ∧ fw ns = none ∧ fw ms = none ∧ ns.length ≤ 400 ∧ ms.length ≤ 400 ∧ ∀ v H', Same H H' → Wd A H' v (ns ++ ms) → Q (.ref v) H'
def sp__law_less (_ : PySem.W.Frag) (_ : Ad) : Sp := Sp2 fun x y H Q _ => ∃ (r q : Addr) (ns ms : List Int), x = .ref r ∧ y = .ref q ∧ H r = some (.lst (ns.map V.int)) ∧ H q = some (.lst (ms.map V.int)) ∧ ns.length ≤ 1000 ∧ ms.length ≤ 1000 ∧ Q (.bl (wless ns ms)) H
def sp__law_compared (_ : PySem.W.Frag) (A : Ad) : Sp := Sp4 fun x y z t H Q _ => ∃ (w u r q : Addr) (ns ms : List Int), x = .ref w ∧ y = .ref u ∧ z = .ref r ∧ t = .ref q ∧ Wd A H w ns ∧ Wd A H u ms ∧ H r = some (.lst (ns.map V.int)) ∧ H q = some (.lst (ms.map V.int)) ∧ ns.length ≤ 1000 ∧ ms.length ≤ 1000 ∧ ∀ H', Same H H' → Q (.bl true) H'
def sp__law_holds (_ : PySem.W.Frag) (A : Ad) : Sp := Sp2 fun x y H Q _ => ∃ (w r : Addr) (ns : List Int), x = .ref w ∧ y = .ref r ∧ Wd A H w ns ∧ H r = some (.lst (ns.map V.int)) ∧ fw ns = none ∧ ns.length ≤ 1000 ∧ ∀ H', Same H H' → Q (.bl true) H'
def sp__law_next (_ : PySem.W.Frag) (_ : Ad) : Sp := Sp2 fun x y H Q _ => ∃ (p r : Addr) (ns : List Int), x = .ref p ∧ y = .ref r ∧ Pool H p ∧ H r = some (.lst (ns.map V.int)) ∧ (∀ n ∈ ns, Gd n) ∧ ns.length ≤ 100 ∧ ∀ (q : Addr) (ms : List Int) H', Dw p H H' → H' q = some (.lst (ms.map V.int)) → (∀ n ∈ ms, Gd n) → ms.length ≤ 2 * ns.length + 20 → Q (.ref q) H'

end Ov

set_option Elab.async false
set_option linter.all false
set_option maxRecDepth 100000
namespace Ov
open PySem PySem.Spec PyProof.Rows L2
local macro_rules | `(tactic| walk_at "r1") => `(tactic| (first
  | with_reducible refine q_seq ?_ | with_reducible refine q_asg ?_ | with_reducible refine q_name ?_ | with_reducible refine q_ret ?_ | with_reducible refine q_drop ?_ | with_reducible refine q_next ?_
  | with_reducible refine q_ifS ?_ | with_reducible refine q_ifE ?_ | with_reducible refine q_op ?_ | with_reducible refine q_un ?_ | with_reducible refine q_test ?_ | with_reducible refine q_tB ?_ | with_reducible refine q_bl ?_
  | with_reducible refine q_c ?_ | with_reducible refine q_cons ?_ | with_reducible refine q_nil ?_ | with_reducible refine q_call ?_ | with_reducible refine q_cb ?_ | with_reducible refine q_gsub ?_
  | with_reducible refine q_sl ?_ | with_reducible refine q_noPart ?_ | with_reducible refine q_part ?_ | with_reducible refine q_int ?_
  | with_reducible refine q_addI ?_ | with_reducible refine q_subI ?_ | with_reducible refine q_ltI ?_ | with_reducible refine q_leI ?_ | with_reducible refine q_gtI ?_ | with_reducible refine q_geI ?_ | with_reducible refine q_negI ?_
  | with_reducible refine q_cIntI ?_ | with_reducible refine q_cAbs ?_ | with_reducible refine q_isN ?_ | with_reducible refine q_notN ?_
  | with_reducible refine q_and ?_ | with_reducible refine q_or ?_ | with_reducible refine q_not ?_ | with_reducible refine q_andV ?_ | with_reducible refine q_orV ?_ | with_reducible refine q_notV ?_
  | ((with_reducible show tVar _ _ _ _); refine q_var rfl ?_)))
local macro_rules | `(tactic| walk_at "rd") => `(tactic| repeat walk_at "r1")
local macro_rules | `(tactic| walk_at "mod") => `(tactic| with_reducible refine q_modI (by first | omega | decide) ?_)

theorem map_len {ns : List Int} : (ns.map V.int).length = ns.length := List.length_map _
theorem fw_app {ns ms : List Int} (h1 : fw ns = none) (h2 : fw ms = none) : fw (ns ++ ms) = none := fw_none fun x hx => (List.mem_append.mp hx).elim (fw_good h1 x) (fw_good h2 x)
theorem int_at {ns : List Int} {i : Nat} {n : Int} (h : ns[i]? = some n) : atI (ns.map V.int) (i : Int) = some (.int n) := at_of (by omega) (by rw [Int.toNat_natCast, List.getElem?_map, h]; rfl)
/-- the two keys of a comparison -/
theorem q_keys {A : Ad} {K : PySem.W.Frag} {r : R2} {H : Hp} {Q : VK} {w u : Addr} {ns ms : List Int} (hw : Wd A H w ns) (hu : Wd A H u ms)
    (k : ∀ (p q t s : Addr) H', Same H H' → H' p = some (.tup [.int (ns.length : Nat), .ref t]) → H' q = some (.tup [.int (ms.length : Nat), .ref s]) → H' t = some (.tup (ns.map V.int)) → H' s = some (.tup (ms.map V.int)) → r (.ref p) (.ref q) H' Q) :
    tOp r (tTup (tCons (tCB (cLen K) (tCons (tFldC A.c_World "answers" (tVar 0)) tNil)) (tCons (tFldC A.c_World "answers" (tVar 0)) tNil))) (tTup (tCons (tCB (cLen K) (tCons (tFldC A.c_World "answers" (tVar 1)) tNil)) (tCons (tFldC A.c_World "answers" (tVar 1)) tNil))) [some (.ref w), some (.ref u)] H Q := by
  obtain ⟨dx, t, hw, ht⟩ := hw
  obtain ⟨dy, s, hu, hs⟩ := hu
  refine q_op (q_tup (q_cons (q_cb (q_cons (va_fld (A := A) (K := K) rfl hw _ (q_nil (q_lenT ht (q_cons (va_fld (A := A) (K := K) rfl hw _ (q_nil ⟨by show 2 ≤ sizeLine; decide, fun p hp => ?_⟩))))))))))
  have sp := same_new (o := .tup [.int (ns.map V.int).length, .ref t]) hp
  refine q_tup (q_cons (q_cb (q_cons (va_fld (A := A) (K := K) rfl (sp _ _ hu) _ (q_nil (q_lenT (sp _ _ hs) (q_cons (va_fld (A := A) (K := K) rfl (sp _ _ hu) _ (q_nil ⟨by show 2 ≤ sizeLine; decide, fun q hq => ?_⟩)))))))))
  have sq := sp.trans (same_new (o := .tup [.int (ms.map V.int).length, .ref s]) hq)
  refine k p q t s _ sq ?_ ?_ (sq _ _ ht) (sq _ _ hs)
  · rw [upd_ne (ne_of_none upd_same hq), upd_same, map_len]
  · rw [upd_same, map_len]
def keyD (ns : List Int) : PyData := .tuple [.int ns.length, .tuple (ns.map PyData.int)]
theorem shaped_key (ns : List Int) (h : ns.length ≤ 100000) : SeqAt.shaped (keyD ns) = true := by
  have h1 := layK ns
  have h2 := depK ns
  unfold SeqAt.shaped keyD
  rw [Bool.and_eq_true]
  refine ⟨?_, decide_eq_true ?_⟩
  · simp only [PyData.canLay0, PyData.canLayAll0, Bool.and_true, Bool.true_and]
    first
    | exact h1
    | (rw [Bool.and_eq_true]; exact ⟨by simp; exact sz1000 h, h1⟩)
    | simp [h1, sz1000 h]
  · simp only [PyData.depth, PyData.depthAll]
    omega
theorem eqv_key (ns ms : List Int) : PyData.eqv (keyD ns) (keyD ms) = decide (ns = ms) := by
  unfold keyD
  rw [PyData.eqv, PyData.eqvAll, PyData.eqvAll, PyData.eqvAll, eqvK]
  by_cases h : ns = ms
  · subst h
    simp [PyData.eqv]
  · simp [h]
def t_World___eq__ (K : PySem.W.Frag) (A : Ad) : TS :=
  (tSeq (tIfS (tNot (tB (tCB (cIsiO K) (tCons (tVar 1) (tCons (tC (.ref A.c_World)) tNil)))))
  tNever
  tNext)
  (tRet (tOp (oEq K) (tTup (tCons (tCB (cLen K) (tCons (tFldC A.c_World "answers" (tVar 0)) tNil)) (tCons (tFldC A.c_World "answers" (tVar 0)) tNil))) (tTup (tCons (tCB (cLen K) (tCons (tFldC A.c_World "answers" (tVar 1)) tNil)) (tCons (tFldC A.c_World "answers" (tVar 1)) tNil))))))
theorem pure_World___eq__ {K : PySem.W.Frag} {A : Ad} {vs : List V} {H : Hp} {Q : VK} {E : XK} (TX : Caught K A) (h : sp_World___eq__ K A vs H Q E) : t_World___eq__ K A { nx := fun _ H' => Q .non H', rt := Q } (start ["self", "other"] vs) H := by
  obtain ⟨_, _, rfl, w, u, ns, ms, rfl, rfl, hw, hu, hl, hl2, k⟩ := h
  unfold t_World___eq__
  refine q_seq (q_ifA (an_not (an_tB (va_isW TX rfl hu))) (fun e => Bool.noConfusion e) (fun _ => q_next ?_))
  refine q_ret (q_keys hw hu fun p q t s H' S hp hq ht hs => ?_)
  refine q_eqD (.tup (SqT.of hp) (.cons (.int _) (.cons (.tup (SqT.of ht) (dpK ns)) .nil))) (.tup (SqT.of hq) (.cons (.int _) (.cons (.tup (SqT.of hs) (dpK ms)) .nil))) (shaped_key ns (by omega)) (shaped_key ms (by omega)) ?_
  have e := eqv_key ns ms
  unfold keyD at e
  rw [e]
  exact k _ S
def t_World___lt__ (K : PySem.W.Frag) (A : Ad) : TS :=
  (tSeq (tIfS (tNot (tB (tCB (cIsiO K) (tCons (tVar 1) (tCons (tC (.ref A.c_World)) tNil)))))
  tNever
  tNext)
  (tRet (tOp oLtK (tTup (tCons (tCB (cLen K) (tCons (tFldC A.c_World "answers" (tVar 0)) tNil)) (tCons (tFldC A.c_World "answers" (tVar 0)) tNil))) (tTup (tCons (tCB (cLen K) (tCons (tFldC A.c_World "answers" (tVar 1)) tNil)) (tCons (tFldC A.c_World "answers" (tVar 1)) tNil))))))
theorem pure_World___lt__ {K : PySem.W.Frag} {A : Ad} {vs : List V} {H : Hp} {Q : VK} {E : XK} (TX : Caught K A) (h : sp_World___lt__ K A vs H Q E) : t_World___lt__ K A { nx := fun _ H' => Q .non H', rt := Q } (start ["self", "other"] vs) H := by
  obtain ⟨_, _, rfl, w, u, ns, ms, rfl, rfl, hw, hu, k⟩ := h
  unfold t_World___lt__
  refine q_seq (q_ifA (an_not (an_tB (va_isW TX rfl hu))) (fun e => Bool.noConfusion e) (fun _ => q_next ?_))
  exact q_ret (q_keys hw hu fun p q t s H' S hp hq ht hs => .inr ⟨p, q, t, s, ns, ms, rfl, rfl, hp, hq, ht, hs, k _ S⟩)
def t_World___gt__ (K : PySem.W.Frag) (A : Ad) : TS :=
  (tSeq (tIfS (tNot (tB (tCB (cIsiO K) (tCons (tVar 1) (tCons (tC (.ref A.c_World)) tNil)))))
  tNever
  tNext)
  (tRet (tOp oGtK (tTup (tCons (tCB (cLen K) (tCons (tFldC A.c_World "answers" (tVar 0)) tNil)) (tCons (tFldC A.c_World "answers" (tVar 0)) tNil))) (tTup (tCons (tCB (cLen K) (tCons (tFldC A.c_World "answers" (tVar 1)) tNil)) (tCons (tFldC A.c_World "answers" (tVar 1)) tNil))))))
theorem pure_World___gt__ {K : PySem.W.Frag} {A : Ad} {vs : List V} {H : Hp} {Q : VK} {E : XK} (TX : Caught K A) (h : sp_World___gt__ K A vs H Q E) : t_World___gt__ K A { nx := fun _ H' => Q .non H', rt := Q } (start ["self", "other"] vs) H := by
  obtain ⟨_, _, rfl, w, u, ns, ms, rfl, rfl, hw, hu, k⟩ := h
  unfold t_World___gt__
  refine q_seq (q_ifA (an_not (an_tB (va_isW TX rfl hu))) (fun e => Bool.noConfusion e) (fun _ => q_next ?_))
  exact q_ret (q_keys hw hu fun p q t s H' S hp hq ht hs => .inr ⟨p, q, t, s, ns, ms, rfl, rfl, hp, hq, ht, hs, k _ S⟩)
def t_World___le__ (K : PySem.W.Frag) (A : Ad) : TS :=
  (tSeq (tIfS (tNot (tB (tCB (cIsiO K) (tCons (tVar 1) (tCons (tC (.ref A.c_World)) tNil)))))
  tNever
  tNext)
  (tRet (tOp oLeK (tTup (tCons (tCB (cLen K) (tCons (tFldC A.c_World "answers" (tVar 0)) tNil)) (tCons (tFldC A.c_World "answers" (tVar 0)) tNil))) (tTup (tCons (tCB (cLen K) (tCons (tFldC A.c_World "answers" (tVar 1)) tNil)) (tCons (tFldC A.c_World "answers" (tVar 1)) tNil))))))
theorem pure_World___le__ {K : PySem.W.Frag} {A : Ad} {vs : List V} {H : Hp} {Q : VK} {E : XK} (TX : Caught K A) (h : sp_World___le__ K A vs H Q E) : t_World___le__ K A { nx := fun _ H' => Q .non H', rt := Q } (start ["self", "other"] vs) H := by
  obtain ⟨_, _, rfl, w, u, ns, ms, rfl, rfl, hw, hu, k⟩ := h
  unfold t_World___le__
  refine q_seq (q_ifA (an_not (an_tB (va_isW TX rfl hu))) (fun e => Bool.noConfusion e) (fun _ => q_next ?_))
  exact q_ret (q_keys hw hu fun p q t s H' S hp hq ht hs => .inr ⟨p, q, t, s, ns, ms, rfl, rfl, hp, hq, ht, hs, k _ S⟩)
def t_World___ge__ (K : PySem.W.Frag) (A : Ad) : TS :=
  (tSeq (tIfS (tNot (tB (tCB (cIsiO K) (tCons (tVar 1) (tCons (tC (.ref A.c_World)) tNil)))))
  tNever
  tNext)
  (tRet (tOp oGeK (tTup (tCons (tCB (cLen K) (tCons (tFldC A.c_World "answers" (tVar 0)) tNil)) (tCons (tFldC A.c_World "answers" (tVar 0)) tNil))) (tTup (tCons (tCB (cLen K) (tCons (tFldC A.c_World "answers" (tVar 1)) tNil)) (tCons (tFldC A.c_World "answers" (tVar 1)) tNil))))))
theorem pure_World___ge__ {K : PySem.W.Frag} {A : Ad} {vs : List V} {H : Hp} {Q : VK} {E : XK} (TX : Caught K A) (h : sp_World___ge__ K A vs H Q E) : t_World___ge__ K A { nx := fun _ H' => Q .non H', rt := Q } (start ["self", "other"] vs) H := by
  obtain ⟨_, _, rfl, w, u, ns, ms, rfl, rfl, hw, hu, k⟩ := h
  unfold t_World___ge__
  refine q_seq (q_ifA (an_not (an_tB (va_isW TX rfl hu))) (fun e => Bool.noConfusion e) (fun _ => q_next ?_))
  exact q_ret (q_keys hw hu fun p q t s H' S hp hq ht hs => .inr ⟨p, q, t, s, ns, ms, rfl, rfl, hp, hq, ht, hs, k _ S⟩)
def t_World___add__ (K : PySem.W.Frag) (A : Ad) : TS :=
  (tRet (tMakeS A.c_World (sp_World___init__ K A) (fun _ => E0) (tCons (tOp (oAddX K) (tFldC A.c_World "answers" (tVar 0)) (tFldC A.c_World "answers" (tVar 1))) tNil)))
theorem pure_World___add__ {K : PySem.W.Frag} {A : Ad} {vs : List V} {H : Hp} {Q : VK} {E : XK} (h : sp_World___add__ K A vs H Q E) : t_World___add__ K A { nx := fun _ H' => Q .non H', rt := Q } (start ["self", "other"] vs) H := by
  obtain ⟨_, _, rfl, w, u, ns, ms, rfl, rfl, ⟨dx, t, hw, ht⟩, ⟨dy, s, hu, hs⟩, g1, g2, hl, hl2, k⟩ := h
  unfold t_World___add__
  have go : ∀ (r : Addr) H1, Same H H1 → H1 r = some (.tup ((ns ++ ms).map V.int)) → ∀ x dx, H1 x = none → H1 dx = none → dx ≠ x → sp_World___init__ K A [.ref x, .ref r] (upd (upd H1 dx (.own x)) x (.ins A.c_World dx [])) (fun v H2 => v = .non ∧ Q (.ref x) H2) E0 := fun r H1 S hr x dx hx hdx hne => by
    have sx : Same H1 (upd (upd H1 dx (.own x)) x (.ins A.c_World dx [])) := (same_new hdx).trans (same_new (by rw [upd_ne (Ne.symm hne)]; exact hx))
    refine ⟨_, _, rfl, x, dx, r, false, ns ++ ms, rfl, rfl, upd_same, ?_, by rw [List.length_append]; omega, fun _ t H2 ex hw' ht' => ⟨rfl, k x H2 (fun b o e => ex b o (ne_of_none (S _ _ e) hx) (sx _ _ (S _ _ e))) ⟨dx, t, hw', ht'⟩⟩, fun i e => by rw [fw_app g1 g2] at e; cases e⟩
    unfold LT
    rw [if_neg Bool.false_ne_true]
    exact sx _ _ hr
  refine q_ret (q_makeS (q_cons (q_op (va_fld (A := A) (K := K) rfl hw _ (va_fld (A := A) (K := K) rfl hu _ (.inr ⟨t, s, _, _, rfl, rfl, SqT.of ht, SqT.of hs, ?_, fun e => ?_, fun e1 e2 => ?_, fun e1 e2 p hp => ?_⟩))))))
  · rw [map_len, map_len]
    exact sz1000 (by omega)
  · have e' : ns = [] := List.map_eq_nil_iff.mp e
    subst e'
    exact q_nil (go s H (Same.refl _) hs)
  · have e' : ms = [] := List.map_eq_nil_iff.mp e2
    subst e'
    refine q_nil (go t H (Same.refl _) ?_)
    rw [List.append_nil]
    exact ht
  · refine q_nil (go p _ (same_new hp) ?_)
    rw [upd_same, List.map_append]
def t__law_less (K : PySem.W.Frag) (A : Ad) : TS :=
  (tSeq (tIfS (tTest (tOp (oNe K) (tCB (cLen K) (tCons (tVar 0) tNil)) (tCB (cLen K) (tCons (tVar 1) tNil))))
  (tRet (tOp oLt (tCB (cLen K) (tCons (tVar 0) tNil)) (tCB (cLen K) (tCons (tVar 1) tNil))))
  tNext)
  (tSeq (tFor (iRng1 (tCons (tCB (cLen K) (tCons (tVar 0) tNil)) tNil)) (gName 2)
  (tIfS (tTest (tOp (oNe K) (tOp (oIx K) (tVar 0) (tVar 2)) (tOp (oIx K) (tVar 1) (tVar 2))))
  (tRet (tOp oLt (tOp (oIx K) (tVar 0) (tVar 2)) (tOp (oIx K) (tVar 1) (tVar 2))))
  tNext))
  (tRet (tC (.bl false)))))
theorem pure__law_less {K : PySem.W.Frag} {A : Ad} {vs : List V} {H : Hp} {Q : VK} {E : XK} (h : sp__law_less K A vs H Q E) : t__law_less K A { nx := fun _ H' => Q .non H', rt := Q } (start ["_law_first", "_law_second", "_law_k"] vs) H := by
  obtain ⟨_, _, rfl, r, q, ns, ms, rfl, rfl, hr, hq, hl, hl2, k⟩ := h
  unfold t__law_less
  refine q_seq (q_ifS (q_test (q_op (q_cb (q_cons (q_var rfl (q_nil (q_lenL hr (q_cb (q_cons (q_var rfl (q_nil (q_lenL hq (q_neS rfl ⟨_, rfl, q_ndec (fun ne => ?_) (fun e => q_next ?_)⟩))))))))))))))
  · refine q_ret (q_op (q_cb (q_cons (q_var rfl (q_nil (q_lenL hr (q_cb (q_cons (q_var rfl (q_nil (q_lenL hq (q_ltI ?_))))))))))))
    have e : wless ns ms = decide (((ns.map V.int).length : Int) < (ms.map V.int).length) := by
      unfold wless kcmp
      rw [if_neg fun e => ne (by rw [map_len, map_len, e]), map_len, map_len]
    rw [← e]
    exact k
  · have el : ns.length = ms.length := by
      rw [map_len, map_len] at e
      injection e with e
      omega
    have ew : wless ns ms = lexp pl false ns ms := by
      unfold wless kcmp
      rw [if_pos el]
    rw [ew] at k
    refine q_seq (q_forR (va_lenL (ar := tNil) (va_var rfl) hr) (by omega) (by rw [map_len]; omega) (fun i σ H' => H' = H ∧ (∀ j, j < i → ns[j]? = ms[j]?) ∧ ∃ v, σ = [some (.ref r), some (.ref q), v]) ⟨rfl, fun j hj => absurd hj (Nat.not_lt_zero _), _, rfl⟩ ?_ ?_)
    · rintro i σ H' hi ⟨rfl, hj, v, rfl⟩
      rw [map_len, Int.toNat_natCast] at hi
      obtain ⟨x, hx⟩ : ∃ x, ns[i]? = some x := ⟨_, List.getElem?_eq_getElem hi⟩
      obtain ⟨y, hy⟩ : ∃ y, ms[i]? = some y := ⟨_, List.getElem?_eq_getElem (el ▸ hi)⟩
      have ax := int_at hx
      have ay := int_at hy
      refine q_name ?_
      dsimp only
      rw [Int.zero_add]
      refine q_ifS (q_test (q_val (va_neS (va_ixL (va_var rfl) (va_var rfl) hr ax) (va_ixL (va_var rfl) (va_var rfl) hq ay) rfl) ⟨_, rfl, q_ndec (fun ne => ?_) (fun e => q_next ⟨rfl, fun j hj' => ?_, _, rfl⟩)⟩))
      · refine q_ret (q_op (va_ixL (va_var rfl) (va_var rfl) hr ax _ (va_ixL (va_var rfl) (va_var rfl) hq ay _ (q_ltI ?_))))
        rw [lexp_at pl false hx hy hj fun e => ne (by rw [e])] at k
        exact k
      · rcases Nat.lt_or_ge j i with h | h
        · exact hj j h
        · have ej : j = i := by omega
          rw [ej, hx, hy]
          injection e with e
          rw [e]
    · rintro σ H' ⟨rfl, hj, v, rfl⟩
      rw [map_len, Int.toNat_natCast] at hj
      have e : ns = ms := List.ext_getElem? fun j => by
        rcases Nat.lt_or_ge j ns.length with h | h
        · exact hj j h
        · rw [List.getElem?_eq_none h, List.getElem?_eq_none (by omega)]
      subst e
      rw [lexp_self] at k
      walk_at "rd"
      exact k

theorem va_notV {σ : L2.St} {H : Hp} {te : TE} {b : Bool} (h : Val te σ H (.bl b)) : Val (tNotV te) σ H (.bl (!b)) := fun Q q => h _ ⟨b, rfl, q⟩
theorem va_orV {σ : L2.St} {H : Hp} {ta tb : TE} {b1 b2 : Bool} (ha : Val ta σ H (.bl b1)) (hb : b1 = false → Val tb σ H (.bl b2)) : Val (tOrV ta tb) σ H (.bl (b1 || b2)) := by
  intro Q q
  refine ha _ ⟨b1, rfl, ?_⟩
  cases b1 with
  | true => exact q_T q
  | false => exact q_F (hb rfl Q q)
theorem q_cmpW {A : Ad} {H : Hp} {Q : VK} {w u : Addr} {ns ms : List Int} {p : Int → Int → Bool} {z b : Bool} (e : kcmp p z ns ms = b) (hw : Wd A H w ns) (hu : Wd A H u ms) (k : ∀ H', Same H H' → Q (.bl b) H') : rCmpO A.c_World (spCmp p z A) E0 (.ref w) (.ref u) H Q := by
  obtain ⟨dx, t, h1, h2⟩ := id hw
  obtain ⟨dy, s, h3, h4⟩ := id hu
  exact ⟨w, dx, _, u, dy, _, rfl, rfl, h1, h3, _, _, rfl, w, u, ns, ms, rfl, rfl, hw, hu, fun H' S => ⟨⟨_, rfl⟩, e ▸ k H' S⟩⟩
theorem q_eqW {A : Ad} {K : PySem.W.Frag} {H : Hp} {Q : VK} {w u : Addr} {ns ms : List Int} {b : Bool} (e : decide (ns = ms) = b) (hw : Wd A H w ns) (hu : Wd A H u ms) (hl : ns.length ≤ 1000) (hl2 : ms.length ≤ 1000) (k : ∀ H', Same H H' → Q (.bl b) H') : rCmpO A.c_World (sp_World___eq__ K A) E0 (.ref w) (.ref u) H Q := by
  obtain ⟨dx, t, h1, h2⟩ := id hw
  obtain ⟨dy, s, h3, h4⟩ := id hu
  exact ⟨w, dx, _, u, dy, _, rfl, rfl, h1, h3, _, _, rfl, w, u, ns, ms, rfl, rfl, hw, hu, hl, hl2, fun H' S => ⟨⟨_, rfl⟩, e ▸ k H' S⟩⟩
theorem q_neW {A : Ad} {K : PySem.W.Frag} {H : Hp} {Q : VK} {w u : Addr} {ns ms : List Int} {b : Bool} (e : (!decide (ns = ms)) = b) (hw : Wd A H w ns) (hu : Wd A H u ms) (hl : ns.length ≤ 1000) (hl2 : ms.length ≤ 1000) (k : ∀ H', Same H H' → Q (.bl b) H') : rNeO A.c_World (sp_World___eq__ K A) E0 (.ref w) (.ref u) H Q := by
  obtain ⟨dx, t, h1, h2⟩ := id hw
  obtain ⟨dy, s, h3, h4⟩ := id hu
  exact ⟨w, dx, _, u, dy, _, rfl, rfl, h1, h3, _, _, rfl, w, u, ns, ms, rfl, rfl, hw, hu, hl, hl2, fun H' S => ⟨_, rfl, e ▸ k H' S⟩⟩
theorem sb {K : PySem.W.Frag} {A : Ad} {H : Hp} {Q : VK} {E : XK} {b : Bool} (q : Q (.bl true) H) : sp__law_same K A ([.bl b, .bl b] ++ []) H Q E := s2 ⟨.bool b, .bl _, .bl _, by simp [PyData.depth], q⟩
def t__law_compared (K : PySem.W.Frag) (A : Ad) : TS :=
  (tSeq (tAsg (tCall (sp__law_less K A) [] E0 (tCons (tVar 2) (tCons (tVar 3) tNil))) (gName 4))
  (tSeq (tAsg (tCall (sp__law_less K A) [] E0 (tCons (tVar 3) (tCons (tVar 2) tNil))) (gName 5))
  (tSeq (tIfS (tOr (tNot (tB (tCall (sp__law_same K A) [] E0 (tCons (tOp (rCmpO A.c_World (sp_World___lt__ K A) E0) (tVar 0) (tVar 1)) (tCons (tVar 4) tNil))))) (tNot (tB (tCall (sp__law_same K A) [] E0 (tCons (tOp (rCmpO A.c_World (sp_World___gt__ K A) E0) (tVar 0) (tVar 1)) (tCons (tVar 5) tNil))))))
  (tRet (tC (.bl false)))
  tNext)
  (tSeq (tIfS (tOr (tNot (tB (tCall (sp__law_same K A) [] E0 (tCons (tOp (rCmpO A.c_World (sp_World___le__ K A) E0) (tVar 0) (tVar 1)) (tCons (tNotV (tVar 5)) tNil))))) (tNot (tB (tCall (sp__law_same K A) [] E0 (tCons (tOp (rCmpO A.c_World (sp_World___ge__ K A) E0) (tVar 0) (tVar 1)) (tCons (tNotV (tVar 4)) tNil))))))
  (tRet (tC (.bl false)))
  tNext)
  (tRet (tAndV (tCall (sp__law_same K A) [] E0 (tCons (tOp (rCmpO A.c_World (sp_World___eq__ K A) E0) (tVar 0) (tVar 1)) (tCons (tAndV (tNotV (tVar 4)) (tNotV (tVar 5))) tNil))) (tCall (sp__law_same K A) [] E0 (tCons (tOp (rNeO A.c_World (sp_World___eq__ K A) E0) (tVar 0) (tVar 1)) (tCons (tOrV (tVar 4) (tVar 5)) tNil)))))))))
theorem pure__law_compared {K : PySem.W.Frag} {A : Ad} {vs : List V} {H : Hp} {Q : VK} {E : XK} (h : sp__law_compared K A vs H Q E) : t__law_compared K A { nx := fun _ H' => Q .non H', rt := Q } (start ["_law_one", "_law_two", "_law_first", "_law_second", "_law_less_here", "_law_more"] vs) H := by
  obtain ⟨_, _, _, _, rfl, w, u, r, q, ns, ms, rfl, rfl, rfl, rfl, hw, hu, hr, hq, hl, hl2, k⟩ := h
  unfold t__law_compared
  refine q_seq (q_asg (q_call (q_cons (q_var rfl (q_cons (q_var rfl (q_nil (s2 ⟨r, q, ns, ms, rfl, rfl, hr, hq, hl, hl2, q_name ?_⟩))))))))
  dsimp only
  refine q_seq (q_asg (q_call (q_cons (q_var rfl (q_cons (q_var rfl (q_nil (s2 ⟨q, r, ms, ns, rfl, rfl, hq, hr, hl2, hl, q_name ?_⟩))))))))
  dsimp only
  have tri := w_tri ns ms
  generalize e1 : wless ns ms = l1 at tri ⊢
  generalize e2 : wless ms ns = l2 at tri ⊢
  refine q_seq (q_ifS (q_or (q_not (q_tB (q_call (q_cons (q_op (q_var rfl (q_var rfl (q_cmpW e1 hw hu fun H1 t1 => q_cons (q_var rfl (q_nil (sb ⟨true, rfl, q_F ?_⟩))))))))))))) 
  refine q_not (q_tB (q_call (q_cons (q_op (q_var rfl (q_var rfl (q_cmpW ((k_gt ns ms).trans e2) (hw.mono t1) (hu.mono t1) fun H2 t2 => q_cons (q_var rfl (q_nil (sb ⟨true, rfl, q_F (q_next ?_)⟩)))))))))) 
  have T2 := t1.trans t2
  refine q_seq (q_ifS (q_or (q_not (q_tB (q_call (q_cons (q_op (q_var rfl (q_var rfl (q_cmpW ((k_le ns ms).trans (congrArg _ e2)) (hw.mono T2) (hu.mono T2) fun H3 t3 => q_cons (va_notV (va_var rfl) _ (q_nil (sb ⟨true, rfl, q_F ?_⟩))))))))))))) 
  have T3 := T2.trans t3
  refine q_not (q_tB (q_call (q_cons (q_op (q_var rfl (q_var rfl (q_cmpW ((k_ge ns ms).trans (congrArg _ e1)) (hw.mono T3) (hu.mono T3) fun H4 t4 => q_cons (va_notV (va_var rfl) _ (q_nil (sb ⟨true, rfl, q_F (q_next ?_)⟩)))))))))) 
  have T4 := T3.trans t4
  refine q_ret (q_andV (q_call (q_cons (q_op (q_var rfl (q_var rfl (q_eqW tri (hw.mono T4) (hu.mono T4) hl hl2 fun H5 t5 => q_cons (va_andV (va_notV (va_var rfl)) (fun _ => va_notV (va_var rfl)) _ (q_nil (sb ⟨true, rfl, q_T ?_⟩))))))))))
  have T5 := T4.trans t5
  exact q_call (q_cons (q_op (q_var rfl (q_var rfl (q_neW (b := l1 || l2) (by rw [tri]; cases l1 <;> cases l2 <;> rfl) (hw.mono T5) (hu.mono T5) hl hl2 fun H6 t6 => q_cons (va_orV (va_var rfl) (fun _ => va_var rfl) _ (q_nil (sb (k H6 (T5.trans t6))))))))))
def t__law_holds (K : PySem.W.Frag) (A : Ad) : TS :=
  (tSeq (tIfS (tOr (tNot (tB (tCB (cIsiO K) (tCons (tVar 0) (tCons (tC (.ref A.c_World)) tNil))))) (tOr (tNot (tB (tCall (sp__law_same K A) [] E0 (tCons (tFldC A.c_World "answers" (tVar 0)) (tCons (tCB (cTupX K) (tCons (tVar 1) tNil)) tNil))))) (tNot (tB (tCall (sp__law_same K A) [] E0 (tCons (tCB (cLenO A.c_World (sp_World___len__ K A) E0) (tCons (tVar 0) tNil)) (tCons (tCB (cLen K) (tCons (tVar 1) tNil)) tNil)))))))
  (tRet (tC (.bl false)))
  tNext)
  (tRet (tAndV (tCall (sp__law_same K A) [] E0 (tCons (tCB (rListO K A.c_World (sp_World___iter__ K A) (sp_World___len__ K A)) (tCons (tVar 0) tNil)) (tCons (tVar 1) tNil))) (tCall (sp__law_same K A) [] E0 (tCons (tProp A.c_World (sp_World_text K A) [] E0 (tVar 0)) (tCons (tM1 (rJoin K) (tC (.str "")) (tLc (iAny K (tVar 1)) (gName 2) tYes (tCB cStr (tCons (tVar 2) tNil)) [2])) tNil))))))
theorem pure__law_holds {K : PySem.W.Frag} {A : Ad} {vs : List V} {H : Hp} {Q : VK} {E : XK} (TX : Caught K A) (h : sp__law_holds K A vs H Q E) : t__law_holds K A { nx := fun _ H' => Q .non H', rt := Q } (start ["_law_world", "_law_row", "_law_answer"] vs) H := by
  obtain ⟨_, _, rfl, w, r, ns, rfl, rfl, hw, hr, g, hl, k⟩ := h
  unfold t__law_holds
  refine q_seq (q_ifS (q_or (q_not (an_tB (va_isW TX rfl hw) _ (q_F ?_)))))
  obtain ⟨dx, t, h1, h2⟩ := id hw
  refine q_or (q_not (q_tB (q_call (q_cons (va_fld (A := A) (K := K) rfl h1 _ (q_cons (q_cb (q_cons (q_var rfl (q_nil ⟨r, _, rfl, .inl ⟨SqL.of hr, fun p hp => q_nil (s2 ⟨.tuple (ns.map PyData.int), ?_, ?_, dep_tup ns, true, rfl, q_F ?_⟩)⟩⟩))))))))))
  · exact rp_tup (same_new hp _ _ h2) hl
  · exact rp_tup upd_same hl
  have t1 := same_new (o := .tup (ns.map V.int)) hp
  have hr1 := t1 _ _ hr
  have hw1 := hw.mono t1
  refine q_not (q_tB (q_call (q_cons (q_cb (q_cons (q_var rfl (q_nil (q_lenW hw1 hl (q_cons (q_cb (q_cons (q_var rfl (q_nil (q_lenL hr1 (q_nil (s2 ⟨.int ns.length, .int _, ?_, ?_, true, rfl, q_F (q_next ?_)⟩))))))))))))))))
  · rw [List.length_map]
    exact .int _
  · simp [PyData.depth]
  refine q_ret (q_andV (q_call (q_cons (q_cb (q_cons (q_var rfl (q_nil (q_listW hw1 hl fun q hq => q_cons (q_var rfl (q_nil (s2 ⟨.list (ns.map PyData.int), rp_lst upd_same hl, rp_lst (same_new hq _ _ hr1) hl, dep_lst ns, true, rfl, q_T ?_⟩)))))))))))
  have t2 := t1.trans (same_new (o := .lst (ns.map V.int)) hq)
  refine q_call (q_cons (q_prpW (va_var rfl) (hw.mono t2) g hl fun H3 t3 => q_cons (q_textL rfl (t3 _ _ (t2 _ _ hr)) g hl (fun _ => rfl) (fun _ => rfl) fun H4 t4 => q_nil (s2 ⟨.str (txt ns), .str _, .str _, ?_, k H4 ((t2.trans t3).trans t4)⟩))))
  simp [PyData.depth]

theorem gd_flip {x : Int} (h : Gd x) : Gd (1 - x) := by
  rcases h with rfl | rfl
  · exact .inr rfl
  · exact .inl rfl
def t__law_next (K : PySem.W.Frag) (A : Ad) : TS :=
  (tSeq (tAsg (tCall (sp__law_draw K A) [] E0 (tCons (tVar 0) (tCons (tC (.int 6)) tNil))) (gName 2))
  (tSeq (tAsg (tCall (sp__law_draw K A) [] E0 (tCons (tVar 0) (tCons (tOp (oAdd K) (tCB (cLen K) (tCons (tVar 1) tNil)) (tC (.int 1))) tNil))) (gName 3))
  (tSeq (tIfS (tTest (tOp (oEq K) (tVar 2) (tC (.int 0))))
  (tRet (tCB (cList K) (tCons (tVar 1) tNil)))
  tNext)
  (tSeq (tIfS (tAnd (tTest (tOp (oEq K) (tVar 2) (tC (.int 1)))) (tTest (tOp oLt (tVar 3) (tCB (cLen K) (tCons (tVar 1) tNil)))))
  (tRet (tOp (oAdd K) (tOp (oAdd K) (tSl (oSl K) (tVar 1) tNoPart (tPart (tVar 3))) (tLst (tCons (tOp oSub (tC (.int 1)) (tOp (oIx K) (tVar 1) (tVar 3))) tNil))) (tSl (oSl K) (tVar 1) (tPart (tOp (oAdd K) (tVar 3) (tC (.int 1)))) tNoPart)))
  tNext)
  (tSeq (tIfS (tTest (tOp (oEq K) (tVar 2) (tC (.int 2))))
  (tRet (tOp (oAdd K) (tSl (oSl K) (tVar 1) tNoPart (tPart (tVar 3))) (tSl (oSl K) (tVar 1) (tPart (tOp (oAdd K) (tVar 3) (tC (.int 1)))) tNoPart)))
  tNext)
  (tSeq (tIfS (tAnd (tTest (tOp (oEq K) (tVar 2) (tC (.int 3)))) (tTest (tOp oLt (tCB (cLen K) (tCons (tVar 1) tNil)) (tC (.int 20)))))
  (tRet (tOp (oAdd K) (tOp (oAdd K) (tSl (oSl K) (tVar 1) tNoPart (tPart (tVar 3))) (tLst (tCons (tCall (sp__law_draw K A) [] E0 (tCons (tVar 0) (tCons (tC (.int 2)) tNil))) tNil))) (tSl (oSl K) (tVar 1) (tPart (tVar 3)) tNoPart)))
  tNext)
  (tRet (tLc (iRng1 (tCons (tCall (sp__law_draw K A) [] E0 (tCons (tVar 0) (tCons (tC (.int 21)) tNil))) tNil)) (gName 4) tYes (tCall (sp__law_draw K A) [] E0 (tCons (tVar 0) (tCons (tC (.int 2)) tNil))) [4]))))))))
theorem pure__law_next {K : PySem.W.Frag} {A : Ad} {vs : List V} {H : Hp} {Q : VK} {E : XK} (h : sp__law_next K A vs H Q E) : t__law_next K A { nx := fun _ H' => Q .non H', rt := Q } (start ["_law_pool_here", "_law_row", "_law_way", "_law_at", "_law_k"] vs) H := by
  obtain ⟨_, _, rfl, p, r, ns, rfl, rfl, P, hr, hg, hl, k⟩ := h
  unfold t__law_next
  have nrp := ne_ints P hr
  refine q_seq (q_asg (q_call (q_cons (q_var rfl (q_cons (q_c (q_nil (s2 ⟨p, 6, rfl, rfl, by decide, by decide, P, fun wy H1 w0 w1 D1 => q_name ?_⟩)))))))) 
  dsimp only
  have hr1 := D1.2.to hr nrp
  refine q_seq (q_asg (q_call (q_cons (q_var rfl (q_cons (q_op (q_cb (q_cons (q_var rfl (q_nil (q_lenL hr1 (q_c (q_addI (q_nil (s2 ⟨p, _, rfl, rfl, by rw [map_len]; omega, by rw [map_len]; omega, D1.1, fun f H2 f0 f1 D2 => q_name ?_⟩)))))))))))))))
  dsimp only
  rw [map_len] at f1
  have hr2 := D2.2.to hr1 nrp
  have W2 := (Dw.of D1).trans (.of D2)
  refine q_seq (q_ifA (an_test (va_eqS (va_var rfl) va_c rfl)) (fun _ => ?_) (fun _ => q_next ?_))
  · exact q_ret (q_cb (q_cons (q_var rfl (q_nil ⟨r, _, rfl, .inl (SqL.of hr2), fun l hl' => k l ns _ (W2.trans (Dw.new W2.pool hl')) upd_same hg (by omega)⟩))))
  have cut1 : ∀ {H2 : Hp}, Dw p H H2 → H2 r = some (.lst (ns.map V.int)) → ∀ {te : TE} {Q' : VK} {σ : L2.St}, σ[1]? = some (some (.ref r)) → σ[3]? = some (some (.int f)) → (∀ t1 m1 H3, Dw p H H3 → H3 r = some (.lst (ns.map V.int)) → H3 t1 = some (.lst ((m1 : List Int).map V.int)) → (∀ x ∈ m1, Gd x) → m1.length ≤ ns.length → t1 ≠ p → t1 ≠ r → Q' (.ref t1) H3) → tSl (oSl K) (tVar 1) tNoPart (tPart (tVar 3)) σ H2 Q' := fun W hr te Q' σ e1 e3 q => by
    refine q_sl (q_var e1 (q_noPart (q_part (q_var e3 (q_int (q_cutInts hr fun t1 m1 ht1 hm1 hl1 => ?_))))))
    exact q t1 m1 _ (W.trans (Dw.new W.pool ht1)) (same_new ht1 _ _ hr) upd_same (fun x hx => hg x (hm1 x hx)) hl1 (ne_pool W.pool ht1) (ne_of_none hr ht1).symm
  have cut2 : ∀ {H2 : Hp} {te : TE} {i : Int} {σ : L2.St}, Dw p H H2 → H2 r = some (.lst (ns.map V.int)) → σ[1]? = some (some (.ref r)) → Val te σ H2 (.int i) → ∀ {Q' : VK}, (∀ t1 m1 H3, Dw p H H3 → Same H2 H3 → H3 r = some (.lst (ns.map V.int)) → H3 t1 = some (.lst ((m1 : List Int).map V.int)) → (∀ x ∈ m1, Gd x) → m1.length ≤ ns.length → Q' (.ref t1) H3) → tSl (oSl K) (tVar 1) (tPart te) tNoPart σ H2 Q' := fun W hr e1 e3 Q' q => by
    refine q_sl (q_var e1 (q_part (e3 _ (q_int (q_noPart (q_cutInts hr fun t1 m1 ht1 hm1 hl1 => ?_))))))
    exact q t1 m1 _ (W.trans (Dw.new W.pool ht1)) (same_new ht1) (same_new ht1 _ _ hr) upd_same (fun x hx => hg x (hm1 x hx)) hl1
  have fin : ∀ {H3 : Hp} {t m : Addr} {xs ys : List Int}, Dw p H H3 → H3 t = some (.lst (xs.map V.int)) → H3 m = some (.lst (ys.map V.int)) → (∀ x ∈ xs, Gd x) → (∀ x ∈ ys, Gd x) → xs.length + ys.length ≤ 2 * ns.length + 1 → oAdd K (.ref t) (.ref m) H3 Q := fun W ht hm gx gy hz => q_addInts ht hm (by omega) fun u hu => k u _ _ (W.trans (Dw.new W.pool hu)) upd_same (fun x hx => (List.mem_append.mp hx).elim (gx x) (gy x)) (by rw [List.length_append]; omega)
  refine q_seq (q_ifA (an_and (an_test (va_eqS (va_var rfl) va_c rfl)) (fun _ => an_test (va_cmp (va_var rfl) (va_lenL (ar := tNil) (va_var rfl) hr2)))) (fun e => ?_) (fun _ => q_next ?_))
  · have hf : f < ns.length := by
      have := (Bool.and_eq_true_iff.mp e).2
      rw [map_len] at this
      exact of_decide_eq_true this
    obtain ⟨x, hx⟩ : ∃ x, ns[f.toNat]? = some x := ⟨_, List.getElem?_eq_getElem (by omega)⟩
    have ax : atI (ns.map V.int) f = some (.int x) := at_of f0 (by rw [List.getElem?_map, hx]; rfl)
    have gx := hg x (List.mem_of_getElem? hx)
    refine q_ret (q_op (q_op (cut1 (te := tVar 0) W2 hr2 rfl rfl fun t1 m1 H3 W3 hr3 ht1 g1 l1 _ _ => ?_)))
    refine q_lst (q_cons (q_op (q_c (q_val (va_ixL (va_var rfl) (va_var rfl) hr3 ax) (q_subI (q_nil ⟨by show 1 ≤ sizeLine; decide, fun t2 ht2 => ?_⟩))))))
    have W4 := W3.trans (Dw.new (o := .lst [.int (1 - x)]) W3.pool ht2)
    refine q_addInts (ms := [1 - x]) (same_new ht2 _ _ ht1) upd_same (by show m1.length + 1 ≤ _; omega) fun t3 ht3 => ?_
    have W5 := W4.trans (Dw.new (o := .lst ((m1 ++ [1 - x]).map V.int)) W4.pool ht3)
    refine cut2 W5 (same_new ht3 _ _ (same_new ht2 _ _ hr3)) rfl (va_add (va_var rfl) va_c) fun t4 m4 H6 W6 S6 _ ht4 g4 l4 => fin W6 (S6 _ _ upd_same) ht4 (fun y hy => ?_) g4 ?_
    · rcases List.mem_append.mp hy with hy | hy
      · exact g1 y hy
      · have ey : y = 1 - x := by simpa using hy
        rw [ey]
        exact gd_flip gx
    · rw [List.length_append]
      show m1.length + 1 + _ ≤ _
      omega
  refine q_seq (q_ifA (an_test (va_eqS (va_var rfl) va_c rfl)) (fun _ => ?_) (fun _ => q_next ?_))
  · refine q_ret (q_op (cut1 (te := tVar 0) W2 hr2 rfl rfl fun t1 m1 H3 W3 hr3 ht1 g1 l1 _ _ => ?_))
    exact cut2 W3 hr3 rfl (va_add (va_var rfl) va_c) fun t4 m4 H6 W6 S6 _ ht4 g4 l4 => fin W6 (S6 _ _ ht1) ht4 g1 g4 (by omega)
  refine q_seq (q_ifA (an_and (an_test (va_eqS (va_var rfl) va_c rfl)) (fun _ => an_test (va_cmp (va_lenL (ar := tNil) (va_var rfl) hr2) va_c))) (fun e => ?_) (fun _ => q_next ?_))
  · refine q_ret (q_op (q_op (cut1 (te := tVar 0) W2 hr2 rfl rfl fun t1 m1 H3 W3 hr3 ht1 g1 l1 n1p _ => ?_)))
    refine q_lst (q_cons (q_call (q_cons (q_var rfl (q_cons (q_c (q_nil (s2 ⟨p, 2, rfl, rfl, by decide, by decide, W3.pool, fun b H4 b0 b1 D4 => q_nil ⟨by show 1 ≤ sizeLine; decide, fun t2 ht2 => ?_⟩⟩))))))))
    have W4 := (W3.trans (.of D4)).trans (Dw.new (o := .lst [.int b]) D4.1 ht2)
    refine q_addInts (ms := [b]) (same_new ht2 _ _ (D4.2.to ht1 n1p)) upd_same (by show m1.length + 1 ≤ _; omega) fun t3 ht3 => ?_
    have W5 := W4.trans (Dw.new (o := .lst ((m1 ++ [b]).map V.int)) W4.pool ht3)
    refine cut2 W5 (same_new ht3 _ _ (same_new ht2 _ _ (D4.2.to hr3 nrp))) rfl (va_var rfl) fun t4 m4 H6 W6 S6 _ ht4 g4 l4 => fin W6 (S6 _ _ upd_same) ht4 (fun y hy => ?_) g4 ?_
    · rcases List.mem_append.mp hy with hy | hy
      · exact g1 y hy
      · have ey : y = b := by simpa using hy
        rw [ey]
        exact (show b = 0 ∨ b = 1 by omega)
    · rw [List.length_append]
      show m1.length + 1 + _ ≤ _
      omega
  refine q_ret (q_rowOf (n := 21) W2.pool (by decide) (by decide) rfl (fun _ => rfl) (fun _ => rfl) fun D ms H3 W3 hD g3 l3 => ?_)
  exact k D ms H3 (W2.trans W3) hD g3 (by omega)

theorem newW {K : PySem.W.Frag} {A : Ad} {H : Hp} {Q : Addr → Hp → Prop} {E : XK} {r : Addr} {b : Bool} {ns : List Int} (hr : LT b H r (ns.map V.int)) (g : fw ns = none) (hl : ns.length ≤ 1000) (k : ∀ x H', Same H H' → Wd A H' x ns → Q x H') :
    ∀ x dx, H x = none → H dx = none → dx ≠ x → sp_World___init__ K A [.ref x, .ref r] (upd (upd H dx (.own x)) x (.ins A.c_World dx [])) (fun v H2 => v = .non ∧ Q x H2) E := fun x dx hx hdx hne => by
  have sx : Same H (upd (upd H dx (.own x)) x (.ins A.c_World dx [])) := (same_new hdx).trans (same_new (by rw [upd_ne (Ne.symm hne)]; exact hx))
  refine ⟨_, _, rfl, x, dx, r, b, ns, rfl, rfl, upd_same, sx _ _ hr, hl, fun _ t H2 ex hw' ht' => ⟨rfl, k x H2 (fun b o e => ex b o (ne_of_none e hx) (sx _ _ e)) ⟨dx, t, hw', ht'⟩⟩, fun i e => by rw [g] at e; cases e⟩
theorem q_addW {A : Ad} {K : PySem.W.Frag} {H : Hp} {Q : VK} {w u : Addr} {ns ms : List Int} (hw : Wd A H w ns) (hu : Wd A H u ms) (g1 : fw ns = none) (g2 : fw ms = none) (l1 : ns.length ≤ 400) (l2 : ms.length ≤ 400) (k : ∀ v H', Same H H' → Wd A H' v (ns ++ ms) → Q (.ref v) H') : rBinO A.c_World (sp_World___add__ K A) E0 (.ref w) (.ref u) H Q := by
  obtain ⟨dx, t, h1, h2⟩ := id hw
  obtain ⟨dy, s, h3, h4⟩ := id hu
  exact ⟨w, dx, _, u, dy, _, rfl, rfl, h1, h3, _, _, rfl, w, u, ns, ms, rfl, rfl, hw, hu, g1, g2, l1, l2, fun v H' S h => ⟨⟨_, rfl⟩, k v H' S h⟩⟩
def t_law (K : PySem.W.Frag) (A : Ad) : TS :=
  (tSeq (tAsg (tCall (sp__law_pool K A) [] E0 (tCons (tVar 0) tNil)) (gName 1))
  (tSeq (tAsg (tLc (iRng1 (tCons (tCall (sp__law_draw K A) [] E0 (tCons (tVar 1) (tCons (tC (.int 21)) tNil))) tNil)) (gName 8) tYes (tCall (sp__law_draw K A) [] E0 (tCons (tVar 1) (tCons (tC (.int 2)) tNil))) [8]) (gName 2))
  (tSeq (tAsg (tCall (sp__law_next K A) [] E0 (tCons (tVar 1) (tCons (tVar 2) tNil))) (gName 3))
  (tSeq (tAsg (tCall (sp__law_next K A) [] E0 (tCons (tVar 1) (tCons (tVar 3) tNil))) (gName 4))
  (tSeq (tAsg (tLst (tCons (tVar 2) (tCons (tVar 3) (tCons (tVar 4) (tCons (tVar 2) tNil))))) (gName 5))
  (tSeq (tAsg (tLst (tCons (tMakeS A.c_World (sp_World___init__ K A) (fun _ => E0) (tCons (tVar 2) tNil)) (tCons (tKMeth A.c_World (sp_World_read K A) (fun _ => E0) (tC (.ref A.c_World)) (tCons (tM1 (rJoin K) (tC (.str "")) (tLc (iAny K (tVar 3)) (gName 10) tYes (tCB cStr (tCons (tVar 10) tNil)) [10])) tNil)) (tCons (tMakeS A.c_World (sp_World___init__ K A) (fun _ => E0) (tCons (tCB (cTupX K) (tCons (tVar 4) tNil)) tNil)) (tCons (tMakeS A.c_World (sp_World___init__ K A) (fun _ => E0) (tCons (tCB (cList K) (tCons (tVar 2) tNil)) tNil)) tNil))))) (gName 6))
  (tSeq (tFor (iRng1 (tCons (tC (.int 2)) tNil)) (gName 7)
  (tFor (iRng1 (tCons (tC (.int 4)) tNil)) (gName 8)
  (tSeq (tIfS (tNot (tB (tCall (sp__law_holds K A) [] E0 (tCons (tOp (oIx K) (tVar 6) (tVar 8)) (tCons (tOp (oIx K) (tVar 5) (tVar 8)) tNil)))))
  (tRet (tC (.bl false)))
  tNext)
  (tFor (iRng1 (tCons (tC (.int 4)) tNil)) (gName 9)
  (tSeq (tIfS (tNot (tB (tCall (sp__law_compared K A) [] E0 (tCons (tOp (oIx K) (tVar 6) (tVar 8)) (tCons (tOp (oIx K) (tVar 6) (tVar 9)) (tCons (tOp (oIx K) (tVar 5) (tVar 8)) (tCons (tOp (oIx K) (tVar 5) (tVar 9)) tNil)))))))
  (tRet (tC (.bl false)))
  tNext)
  (tIfS (tNot (tB (tCall (sp__law_holds K A) [] E0 (tCons (tOp (rBinO A.c_World (sp_World___add__ K A) E0) (tOp (oIx K) (tVar 6) (tVar 8)) (tOp (oIx K) (tVar 6) (tVar 9))) (tCons (tOp (oAdd K) (tOp (oIx K) (tVar 5) (tVar 8)) (tOp (oIx K) (tVar 5) (tVar 9))) tNil)))))
  (tRet (tC (.bl false)))
  tNext))))))
  (tRet (tC (.bl true))))))))))
theorem pure_law {K : PySem.W.Frag} {A : Ad} {vs : List V} {H : Hp} {Q : VK} {E : XK} (h : sp_law K A vs H Q E) : t_law K A { nx := fun _ H' => Q .non H', rt := Q } (start ["_law_script", "_law_pool_here", "_law_first", "_law_second", "_law_third", "_law_rows", "_law_made", "_law_turn", "_law_k", "_law_m", "_law_answer"] vs) H := by
  obtain ⟨_, rfl, a, ns, rfl, hS, hlen, k⟩ := h
  unfold t_law
  refine q_seq (q_asg (q_call (q_cons (q_var rfl (q_nil (s1 ⟨a, ns, rfl, hS, fun p H1 S1 P hp => q_name ?_⟩))))))
  dsimp only
  refine q_seq (q_asg (q_rowOf (n := 21) P (by decide) (by decide) rfl (fun _ => rfl) (fun _ => rfl) fun r1 n1 H2 W1 h1 g1 l1 => q_name ?_))
  dsimp only
  refine q_seq (q_asg (q_call (q_cons (q_var rfl (q_cons (q_var rfl (q_nil (s2 ⟨p, r1, n1, rfl, rfl, W1.pool, h1, g1, by omega, fun r2 n2 H3 W2 h2 g2 l2 => q_name ?_⟩))))))))
  dsimp only
  refine q_seq (q_asg (q_call (q_cons (q_var rfl (q_cons (q_var rfl (q_nil (s2 ⟨p, r2, n2, rfl, rfl, W2.pool, h2, g2, by omega, fun r3 n3 H4 W3 h3 g3 l3 => q_name ?_⟩))))))))
  dsimp only
  have h14 := W3.ex _ _ (ne_ints W2.pool (W2.ex _ _ (ne_ints W1.pool h1) h1)) (W2.ex _ _ (ne_ints W1.pool h1) h1)
  have h24 := W3.ex _ _ (ne_ints W2.pool h2) h2
  have f1 := fw_none g1
  have f2 := fw_none g2
  have f3 := fw_none g3
  clear W1 W2 W3 h1 h2 S1
  refine q_seq (q_asg (q_lst (q_cons (q_var rfl (q_cons (q_var rfl (q_cons (q_var rfl (q_cons (q_var rfl (q_nil ⟨by show 4 ≤ sizeLine; decide, fun R hR => q_name ?_⟩))))))))))) 
  dsimp only
  have S5 := same_new (o := .lst [.ref r1, .ref r2, .ref r3, .ref r1]) hR
  have R1 := S5 _ _ h14
  have R2 := S5 _ _ h24
  have R3 := S5 _ _ h3
  have hRR : upd H4 R (.lst [.ref r1, .ref r2, .ref r3, .ref r1]) R = some (.lst [.ref r1, .ref r2, .ref r3, .ref r1]) := upd_same
  generalize upd H4 R (.lst [.ref r1, .ref r2, .ref r3, .ref r1]) = H5 at R1 R2 R3 hRR ⊢
  clear S5 h14 h24 h3 hR
  refine q_seq (q_asg (q_lst (q_cons (q_makeS (q_cons (q_var rfl (q_nil (newW (b := true) (ns := n1) R1 f1 (by omega) fun w1 H6 t1 V1 => ?_))))))))
  refine q_cons (q_kmeth (q_c ⟨rfl, q_cons (q_textL rfl (t1 _ _ R2) f2 (by omega) (fun _ => rfl) (fun _ => rfl) fun H7 t2 => q_nil ⟨_, _, rfl, txt n2, rfl, rfl, by rw [txt_len]; omega, fun _ w2 H8 t3 V2 => ?_, fun i e => ?_⟩)⟩))
  · rw [digz_txt f2] at V2
    have T8 := (t1.trans t2).trans t3
    refine q_cons (q_makeS (q_cons (q_cb (q_cons (q_var rfl (q_nil ⟨r3, _, rfl, .inl ⟨SqL.of (T8 _ _ R3), fun tu htu => ?_⟩⟩))))))
    have T9 := T8.trans (same_new (o := .tup (n3.map V.int)) htu)
    refine q_nil (newW (b := false) (ns := n3) upd_same f3 (by omega) fun w3 H10 t4 V3 => ?_)
    have T10 := T9.trans t4
    refine q_cons (q_makeS (q_cons (q_cb (q_cons (q_var rfl (q_nil ⟨r1, _, rfl, .inl (SqL.of (T10 _ _ R1)), fun cp hcp => ?_⟩))))))
    have T11 := T10.trans (same_new (o := .lst (n1.map V.int)) hcp)
    refine q_nil (newW (b := true) (ns := n1) upd_same f1 (by omega) fun w4 H12 t5 V4 => q_nil ⟨by show 4 ≤ sizeLine; decide, fun M hM => q_name ?_⟩)
    have T12 := (T11.trans t5).trans (same_new (o := .lst [.ref w1, .ref w2, .ref w3, .ref w4]) hM)
    have s8 : Same H8 (upd H12 M (.lst [.ref w1, .ref w2, .ref w3, .ref w4])) := ((((same_new (o := .tup (n3.map V.int)) htu).trans t4).trans (same_new (o := .lst (n1.map V.int)) hcp)).trans t5).trans (same_new hM)
    have s10 : Same H10 (upd H12 M (.lst [.ref w1, .ref w2, .ref w3, .ref w4])) := ((same_new (o := .lst (n1.map V.int)) hcp).trans t5).trans (same_new hM)
    have X1 := V1.mono ((t2.trans t3).trans s8)
    have X2 := V2.mono s8
    have X3 := V3.mono s10
    have X4 := V4.mono (same_new (o := .lst [.ref w1, .ref w2, .ref w3, .ref w4]) hM)
    have Y1 := T12 _ _ R1
    have Y2 := T12 _ _ R2
    have Y3 := T12 _ _ R3
    have YR := T12 _ _ hRR
    have YM : upd H12 M (.lst [.ref w1, .ref w2, .ref w3, .ref w4]) M = some (.lst [.ref w1, .ref w2, .ref w3, .ref w4]) := upd_same
    generalize upd H12 M (.lst [.ref w1, .ref w2, .ref w3, .ref w4]) = Hb at X1 X2 X3 X4 Y1 Y2 Y3 YR YM ⊢
    clear T12 s8 s10 hM hcp V4 T11 t5 T10 V3 t4 T9 htu T8 V2 t3 t2 V1 t1 R1 R2 R3 hRR
    have rows : ∀ j : Nat, j < 4 → ∃ (r w : Addr) (ms : List Int), atI ([.ref r1, .ref r2, .ref r3, .ref r1] : List V) (j : Int) = some (.ref r) ∧ atI ([.ref w1, .ref w2, .ref w3, .ref w4] : List V) (j : Int) = some (.ref w) ∧ fw ms = none ∧ ms.length ≤ 200 ∧ Hb r = some (.lst (ms.map V.int)) ∧ Wd A Hb w ms := fun j hj => by
      match j, hj with
      | 0, _ => exact ⟨r1, w1, n1, rfl, rfl, f1, by omega, Y1, X1⟩
      | 1, _ => exact ⟨r2, w2, n2, rfl, rfl, f2, by omega, Y2, X2⟩
      | 2, _ => exact ⟨r3, w3, n3, rfl, rfl, f3, by omega, Y3, X3⟩
      | 3, _ => exact ⟨r1, w4, n1, rfl, rfl, f1, by omega, Y1, X4⟩
    dsimp only
    refine q_seq (q_forR va_c (by decide) (by decide) (fun _ σ H' => Same Hb H' ∧ ∃ v7 v8 v9 v10 : Option V, σ = [some (.ref a), some (.ref p), some (.ref r1), some (.ref r2), some (.ref r3), some (.ref R), some (.ref M), v7, v8, v9, v10]) ⟨Same.refl _, _, _, _, _, rfl⟩ ?_ ?_)
    · rintro i σ H' hi ⟨T, v7, v8, v9, v10, rfl⟩
      refine q_name ?_
      dsimp only
      refine q_forR va_c (by decide) (by decide) (fun _ σ H' => Same Hb H' ∧ ∃ v7 v8 v9 v10 : Option V, σ = [some (.ref a), some (.ref p), some (.ref r1), some (.ref r2), some (.ref r3), some (.ref R), some (.ref M), v7, v8, v9, v10]) ⟨T, _, _, _, _, rfl⟩ ?_ (fun σ H' h => h)
      rintro j σ H' hj ⟨T, v7, v8, v9, v10, rfl⟩
      obtain ⟨r, w, ms, er, ew, fm, lm, hr, hw⟩ := rows j hj
      refine q_name ?_
      dsimp only
      rw [Int.zero_add]
      refine q_seq (q_ifS (q_not (q_tB (q_call (q_cons (va_ixL (va_var rfl) (va_var rfl) (T _ _ YM) ew _ (q_cons (va_ixL (va_var rfl) (va_var rfl) (T _ _ YR) er _ (q_nil (s2 ⟨w, r, ms, rfl, rfl, hw.mono T, T _ _ hr, fm, by omega, fun H2 t2 => ⟨true, rfl, q_F (q_next ?_)⟩⟩)))))))))) 
      have T2 := T.trans t2
      refine q_forR va_c (by decide) (by decide) (fun _ σ H' => Same Hb H' ∧ ∃ v7 v9 v10 : Option V, σ = [some (.ref a), some (.ref p), some (.ref r1), some (.ref r2), some (.ref r3), some (.ref R), some (.ref M), v7, some (.int (j : Nat)), v9, v10]) ⟨T2, _, _, _, rfl⟩ ?_ (fun σ H' h => ⟨h.1, _, _, _, _, h.2.choose_spec.choose_spec.choose_spec⟩)
      rintro m σ H' hm ⟨T, v7, v9, v10, rfl⟩
      obtain ⟨q, u, ls, eq, eu, fl, ll, hq, hu⟩ := rows m hm
      refine q_name ?_
      dsimp only
      rw [Int.zero_add]
      refine q_seq (q_ifS (q_not (q_tB (q_call (q_cons (va_ixL (va_var rfl) (va_var rfl) (T _ _ YM) ew _ (q_cons (va_ixL (va_var rfl) (va_var rfl) (T _ _ YM) eu _ (q_cons (va_ixL (va_var rfl) (va_var rfl) (T _ _ YR) er _ (q_cons (va_ixL (va_var rfl) (va_var rfl) (T _ _ YR) eq _ (q_nil (s4 ⟨w, u, r, q, ms, ls, rfl, rfl, rfl, rfl, hw.mono T, hu.mono T, T _ _ hr, T _ _ hq, by omega, by omega, fun H3 t3 => ⟨true, rfl, q_F (q_next ?_)⟩⟩)))))))))))))) 
      have T3 := T.trans t3
      refine q_ifS (q_not (q_tB (q_call (q_cons (q_op (va_ixL (va_var rfl) (va_var rfl) (T3 _ _ YM) ew _ (va_ixL (va_var rfl) (va_var rfl) (T3 _ _ YM) eu _ (q_addW (hw.mono T3) (hu.mono T3) fm fl (by omega) (by omega) fun x H4 t4 hx => q_cons (q_op (va_ixL (va_var rfl) (va_var rfl) ((T3.trans t4) _ _ YR) er _ (va_ixL (va_var rfl) (va_var rfl) ((T3.trans t4) _ _ YR) eq _ (q_addInts ((T3.trans t4) _ _ hr) ((T3.trans t4) _ _ hq) (by omega) fun y hy => q_nil (s2 ⟨x, y, ms ++ ls, rfl, rfl, hx.mono (same_new hy), upd_same, fw_app fm fl, by rw [List.length_append]; omega, fun H5 t5 => ⟨true, rfl, q_F (q_next ⟨?_, _, _, _, rfl⟩)⟩⟩)))))))))))))
      exact ((T3.trans t4).trans (same_new hy)).trans t5
    · rintro σ H' ⟨T, v7, v8, v9, v10, rfl⟩
      walk_at "rd"
      exact k H'
  · rw [digz_txt f2, f2] at e
    cases e

end Ov

set_option Elab.async false
set_option linter.all false
set_option maxRecDepth 100000
namespace Ov
open PySem PySem.Spec PyProof.Rows L2
def topS (i : Nat) : Stmt := PySem.Challenge.pw_exitdeeds_k14_world_order.main.body.getD i (.Pass ⟨0, 0, 0, 0⟩)
abbrev s_World___init__ : Stmt := inClass (topS 5) 0
theorem sc_World___init__ : FnScope ["self", "answers", "at", "answer"] ["self", "answers"] (defScope s_World___init__) := ⟨rfl, rfl, rfl, by decide +kernel, rfl, by decide +kernel, by decide +kernel⟩
abbrev s_World___eq__ : Stmt := inClass (topS 5) 6
theorem sc_World___eq__ : FnScope ["self", "other"] ["self", "other"] (defScope s_World___eq__) := ⟨rfl, rfl, rfl, by decide +kernel, rfl, by decide +kernel, by decide +kernel⟩
abbrev s_World___ge__ : Stmt := inClass (topS 5) 10
theorem sc_World___ge__ : FnScope ["self", "other"] ["self", "other"] (defScope s_World___ge__) := ⟨rfl, rfl, rfl, by decide +kernel, rfl, by decide +kernel, by decide +kernel⟩
abbrev s_World___le__ : Stmt := inClass (topS 5) 8
theorem sc_World___le__ : FnScope ["self", "other"] ["self", "other"] (defScope s_World___le__) := ⟨rfl, rfl, rfl, by decide +kernel, rfl, by decide +kernel, by decide +kernel⟩
abbrev s_World___gt__ : Stmt := inClass (topS 5) 9
theorem sc_World___gt__ : FnScope ["self", "other"] ["self", "other"] (defScope s_World___gt__) := ⟨rfl, rfl, rfl, by decide +kernel, rfl, by decide +kernel, by decide +kernel⟩
abbrev s_World___lt__ : Stmt := inClass (topS 5) 7
theorem sc_World___lt__ : FnScope ["self", "other"] ["self", "other"] (defScope s_World___lt__) := ⟨rfl, rfl, rfl, by decide +kernel, rfl, by decide +kernel, by decide +kernel⟩
abbrev s_World_text : Stmt := inClass (topS 5) 2
theorem sc_World_text : FnScope ["self", "answer"] ["self"] (defScope s_World_text) := ⟨rfl, rfl, rfl, by decide +kernel, rfl, by decide +kernel, by decide +kernel⟩
abbrev s_World___iter__ : Stmt := inClass (topS 5) 4
theorem sc_World___iter__ : FnScope ["self"] ["self"] (defScope s_World___iter__) := ⟨rfl, rfl, rfl, by decide +kernel, rfl, by decide +kernel, by decide +kernel⟩
abbrev s_World___len__ : Stmt := inClass (topS 5) 3
theorem sc_World___len__ : FnScope ["self"] ["self"] (defScope s_World___len__) := ⟨rfl, rfl, rfl, by decide +kernel, rfl, by decide +kernel, by decide +kernel⟩
abbrev s__law_pool : Stmt := topS 7
theorem sc__law_pool : FnScope ["_law_script"] ["_law_script"] (defScope s__law_pool) := ⟨rfl, rfl, rfl, by decide +kernel, rfl, by decide +kernel, by decide +kernel⟩
abbrev s__law_mixed : Stmt := topS 8
theorem sc__law_mixed : FnScope ["_law_cell", "_law_turn", "_law_limit", "_law_first", "_law_second", "_law_third"] ["_law_cell", "_law_turn", "_law_limit"] (defScope s__law_mixed) := ⟨rfl, rfl, rfl, by decide +kernel, rfl, by decide +kernel, by decide +kernel⟩
abbrev s__law_less : Stmt := topS 12
theorem sc__law_less : FnScope ["_law_first", "_law_second", "_law_k"] ["_law_first", "_law_second"] (defScope s__law_less) := ⟨rfl, rfl, rfl, by decide +kernel, rfl, by decide +kernel, by decide +kernel⟩
abbrev s__law_draw : Stmt := topS 9
theorem sc__law_draw : FnScope ["_law_pool_here", "_law_limit", "_law_cell", "_law_digit"] ["_law_pool_here", "_law_limit"] (defScope s__law_draw) := ⟨rfl, rfl, rfl, by decide +kernel, rfl, by decide +kernel, by decide +kernel⟩
abbrev s_World___add__ : Stmt := inClass (topS 5) 5
theorem sc_World___add__ : FnScope ["self", "other"] ["self", "other"] (defScope s_World___add__) := ⟨rfl, rfl, rfl, by decide +kernel, rfl, by decide +kernel, by decide +kernel⟩
abbrev s_World_read : Stmt := inClass (topS 5) 1
theorem sc_World_read : FnScope ["cls", "text", "digit"] ["cls", "text"] (defScope s_World_read) := ⟨rfl, rfl, rfl, by decide +kernel, rfl, by decide +kernel, by decide +kernel⟩
abbrev s__law_next : Stmt := topS 11
theorem sc__law_next : FnScope ["_law_pool_here", "_law_row", "_law_way", "_law_at", "_law_k"] ["_law_pool_here", "_law_row"] (defScope s__law_next) := ⟨rfl, rfl, rfl, by decide +kernel, rfl, by decide +kernel, by decide +kernel⟩
abbrev s__law_same : Stmt := topS 10
theorem sc__law_same : FnScope ["_law_actual", "_law_expected", "_law_k"] ["_law_actual", "_law_expected"] (defScope s__law_same) := ⟨rfl, rfl, rfl, by decide +kernel, rfl, by decide +kernel, by decide +kernel⟩
abbrev s__law_compared : Stmt := topS 13
theorem sc__law_compared : FnScope ["_law_one", "_law_two", "_law_first", "_law_second", "_law_less_here", "_law_more"] ["_law_one", "_law_two", "_law_first", "_law_second"] (defScope s__law_compared) := ⟨rfl, rfl, rfl, by decide +kernel, rfl, by decide +kernel, by decide +kernel⟩
abbrev s__law_holds : Stmt := topS 14
theorem sc__law_holds : FnScope ["_law_world", "_law_row", "_law_answer"] ["_law_world", "_law_row"] (defScope s__law_holds) := ⟨rfl, rfl, rfl, by decide +kernel, rfl, by decide +kernel, by decide +kernel⟩
abbrev s_law : Stmt := topS 15
theorem sc_law : FnScope ["_law_script", "_law_pool_here", "_law_first", "_law_second", "_law_third", "_law_rows", "_law_made", "_law_turn", "_law_k", "_law_m", "_law_answer"] ["_law_script"] (defScope s_law) := ⟨rfl, rfl, rfl, by decide +kernel, rfl, by decide +kernel, by decide +kernel⟩
theorem en_at : PySem.ExS.FnOk "at" := ⟨by decide, by decide, by decide, by decide⟩
structure Txt (P : Program) (K : PySem.W.Frag) (mg : Str → Option Value) (A : Ad) : Prop where
  n_bool : mg "bool" = none
  n_enumerate : mg "enumerate" = none
  n_int : mg "int" = none
  n_isinstance : mg "isinstance" = none
  n_iter : mg "iter" = none
  n_len : mg "len" = none
  n_list : mg "list" = none
  n_range : mg "range" = none
  n_str : mg "str" = none
  n_tuple : mg "tuple" = none
  g_DIGITS : ∃ u, mg "DIGITS" = some u ∧ RelV g_DIGITS u
  c_BadWorld : mg "BadWorld" = some (.ref A.c_BadWorld)
  c_World : mg "World" = some (.ref A.c_World)
  e_BadWorld : PySem.ExS.ETxt P K mg "BadWorld" "at" A.c_BadWorld A.i_BadWorld
  k_World : Cls K A.c_World
  ne_World : PySem.W.findIn K (.ref A.c_World) "__ne__" = some (some (.builtin "object.__ne__")) ∧ PySem.W.mroIn K A.c_World (.type "object") = some true
  sf_World : PySem.W.selfFirst K A.c_World = true
  m_World : MkC K mg "World" A.c_World
  r_World : ClX.CRead K A.c_World (.type "type")
  f_World_answers : NoAttr K A.c_World "answers"
section
variable {P : Program} {w : World} {K : PySem.W.Frag} {mg : Str → Option Value} {base : Heap} {A : Ad}
theorem ok_World___init__ (T : Txt P K mg A) (TX : Caught K A) (h : MHas K A.c_World "__init__" "World.__init__" s_World___init__ ["self", "answers"]) : MCal P w K mg base (L2.CX P w) 1 A.c_World "__init__" ["self", "answers"] (sp_World___init__ K A) := by
  refine h.okX (k := 0) sc_World___init__ (fun vs H Q E h => len2 h) fun f cdv A' outer s H vs Q E hr hsp => ⟨t_World___init__ K A E, ?_, pure_World___init__ hsp⟩
  have hu_ := hu65 hr
  unfold t_World___init__
  exact (pss_cons (ps_for (passes_of rfl) rfl (pi_enumA rfl T.n_enumerate (pa_cons (pv 1) pa_nil)) (pg_tup rfl (pgs_cons (pg_name (i := 2) sc_World___init__.nd rfl (Or.inl rfl)) (pgs_cons (pg_name (i := 3) sc_World___init__.nd rfl (Or.inl rfl)) pgs_nil)))
  (pss_one (ps_if (pt_cmpR (op_oNotIn hu_) (pv 3) (pe_tup (pa_cons pe_int (pa_cons pe_int pa_nil))) rfl)
  (pss_one (ps_raiseE rfl T.e_BadWorld en_at hr (takes_of rfl rfl rfl rfl) (pa_cons (pv 2) pa_nil) rfl (by decide)))
  pss_nil)))
  (pss_one (ps_fldC T.k_World T.f_World_answers (pv 0) (pe_callTy call_cTupX rfl T.n_tuple bi_tuple (pa_cons (pv 1) pa_nil)))))
theorem ok_World___eq__ (T : Txt P K mg A) (TX : Caught K A) (h : MHas K A.c_World "__eq__" "World.__eq__" s_World___eq__ ["self", "other"]) : MCal P w K mg base CX0 1 A.c_World "__eq__" ["self", "other"] (sp_World___eq__ K A) := by
  refine h.ok (k := 0) sc_World___eq__ (fun vs H Q E h => len2 h) fun f cdv A' outer s H vs Q E hr hsp => ⟨t_World___eq__ K A, ?_, pure_World___eq__ TX hsp⟩
  have hu_ := hu65 hr
  unfold t_World___eq__
  exact (pss_cons (ps_if (pt_not (pt_val (pe_callB call_cIsiO rfl T.n_isinstance bi_isinstance (pa_cons (pv 1) (pa_cons (pe_glob (v := .ref A.c_World) rfl T.c_World rfl) pa_nil)))))
  (pss_one ps_never)
  pss_nil)
  (pss_one (ps_ret (pe_cmpR (op_oEq hu_) (pe_tup (pa_cons (pe_callB call_cLen rfl T.n_len bi_len (pa_cons (pe_fldC T.k_World T.f_World_answers (pv 0)) pa_nil)) (pa_cons (pe_fldC T.k_World T.f_World_answers (pv 0)) pa_nil))) (pe_tup (pa_cons (pe_callB call_cLen rfl T.n_len bi_len (pa_cons (pe_fldC T.k_World T.f_World_answers (pv 1)) pa_nil)) (pa_cons (pe_fldC T.k_World T.f_World_answers (pv 1)) pa_nil))) (nomark _)))))
theorem ok_World___ge__ (T : Txt P K mg A) (TX : Caught K A) (h : MHas K A.c_World "__ge__" "World.__ge__" s_World___ge__ ["self", "other"]) : MCal P w K mg base CX0 1 A.c_World "__ge__" ["self", "other"] (sp_World___ge__ K A) := by
  refine h.ok (k := 0) sc_World___ge__ (fun vs H Q E h => len2 h) fun f cdv A' outer s H vs Q E hr hsp => ⟨t_World___ge__ K A, ?_, pure_World___ge__ TX hsp⟩
  have hu_ := hu65 hr
  unfold t_World___ge__
  exact (pss_cons (ps_if (pt_not (pt_val (pe_callB call_cIsiO rfl T.n_isinstance bi_isinstance (pa_cons (pv 1) (pa_cons (pe_glob (v := .ref A.c_World) rfl T.c_World rfl) pa_nil)))))
  (pss_one ps_never)
  pss_nil)
  (pss_one (ps_ret (pe_cmpR (op_oGeK hu_) (pe_tup (pa_cons (pe_callB call_cLen rfl T.n_len bi_len (pa_cons (pe_fldC T.k_World T.f_World_answers (pv 0)) pa_nil)) (pa_cons (pe_fldC T.k_World T.f_World_answers (pv 0)) pa_nil))) (pe_tup (pa_cons (pe_callB call_cLen rfl T.n_len bi_len (pa_cons (pe_fldC T.k_World T.f_World_answers (pv 1)) pa_nil)) (pa_cons (pe_fldC T.k_World T.f_World_answers (pv 1)) pa_nil))) (nomark _)))))
theorem ok_World___le__ (T : Txt P K mg A) (TX : Caught K A) (h : MHas K A.c_World "__le__" "World.__le__" s_World___le__ ["self", "other"]) : MCal P w K mg base CX0 1 A.c_World "__le__" ["self", "other"] (sp_World___le__ K A) := by
  refine h.ok (k := 0) sc_World___le__ (fun vs H Q E h => len2 h) fun f cdv A' outer s H vs Q E hr hsp => ⟨t_World___le__ K A, ?_, pure_World___le__ TX hsp⟩
  have hu_ := hu65 hr
  unfold t_World___le__
  exact (pss_cons (ps_if (pt_not (pt_val (pe_callB call_cIsiO rfl T.n_isinstance bi_isinstance (pa_cons (pv 1) (pa_cons (pe_glob (v := .ref A.c_World) rfl T.c_World rfl) pa_nil)))))
  (pss_one ps_never)
  pss_nil)
  (pss_one (ps_ret (pe_cmpR (op_oLeK hu_) (pe_tup (pa_cons (pe_callB call_cLen rfl T.n_len bi_len (pa_cons (pe_fldC T.k_World T.f_World_answers (pv 0)) pa_nil)) (pa_cons (pe_fldC T.k_World T.f_World_answers (pv 0)) pa_nil))) (pe_tup (pa_cons (pe_callB call_cLen rfl T.n_len bi_len (pa_cons (pe_fldC T.k_World T.f_World_answers (pv 1)) pa_nil)) (pa_cons (pe_fldC T.k_World T.f_World_answers (pv 1)) pa_nil))) (nomark _)))))
theorem ok_World___gt__ (T : Txt P K mg A) (TX : Caught K A) (h : MHas K A.c_World "__gt__" "World.__gt__" s_World___gt__ ["self", "other"]) : MCal P w K mg base CX0 1 A.c_World "__gt__" ["self", "other"] (sp_World___gt__ K A) := by
  refine h.ok (k := 0) sc_World___gt__ (fun vs H Q E h => len2 h) fun f cdv A' outer s H vs Q E hr hsp => ⟨t_World___gt__ K A, ?_, pure_World___gt__ TX hsp⟩
  have hu_ := hu65 hr
  unfold t_World___gt__
  exact (pss_cons (ps_if (pt_not (pt_val (pe_callB call_cIsiO rfl T.n_isinstance bi_isinstance (pa_cons (pv 1) (pa_cons (pe_glob (v := .ref A.c_World) rfl T.c_World rfl) pa_nil)))))
  (pss_one ps_never)
  pss_nil)
  (pss_one (ps_ret (pe_cmpR (op_oGtK hu_) (pe_tup (pa_cons (pe_callB call_cLen rfl T.n_len bi_len (pa_cons (pe_fldC T.k_World T.f_World_answers (pv 0)) pa_nil)) (pa_cons (pe_fldC T.k_World T.f_World_answers (pv 0)) pa_nil))) (pe_tup (pa_cons (pe_callB call_cLen rfl T.n_len bi_len (pa_cons (pe_fldC T.k_World T.f_World_answers (pv 1)) pa_nil)) (pa_cons (pe_fldC T.k_World T.f_World_answers (pv 1)) pa_nil))) (nomark _)))))
theorem ok_World___lt__ (T : Txt P K mg A) (TX : Caught K A) (h : MHas K A.c_World "__lt__" "World.__lt__" s_World___lt__ ["self", "other"]) : MCal P w K mg base CX0 1 A.c_World "__lt__" ["self", "other"] (sp_World___lt__ K A) := by
  refine h.ok (k := 0) sc_World___lt__ (fun vs H Q E h => len2 h) fun f cdv A' outer s H vs Q E hr hsp => ⟨t_World___lt__ K A, ?_, pure_World___lt__ TX hsp⟩
  have hu_ := hu65 hr
  unfold t_World___lt__
  exact (pss_cons (ps_if (pt_not (pt_val (pe_callB call_cIsiO rfl T.n_isinstance bi_isinstance (pa_cons (pv 1) (pa_cons (pe_glob (v := .ref A.c_World) rfl T.c_World rfl) pa_nil)))))
  (pss_one ps_never)
  pss_nil)
  (pss_one (ps_ret (pe_cmpR (op_oLtK hu_) (pe_tup (pa_cons (pe_callB call_cLen rfl T.n_len bi_len (pa_cons (pe_fldC T.k_World T.f_World_answers (pv 0)) pa_nil)) (pa_cons (pe_fldC T.k_World T.f_World_answers (pv 0)) pa_nil))) (pe_tup (pa_cons (pe_callB call_cLen rfl T.n_len bi_len (pa_cons (pe_fldC T.k_World T.f_World_answers (pv 1)) pa_nil)) (pa_cons (pe_fldC T.k_World T.f_World_answers (pv 1)) pa_nil))) (nomark _)))))
theorem ok_World_text (T : Txt P K mg A) (TX : Caught K A) (h : PHas K A.c_World "text" "World.text" s_World_text ["self"]) : Prp P w K mg base CX0 1 A.c_World "text" (sp_World_text K A) := by
  refine h.ok (k := 0) sc_World_text (fun vs H Q E h => len1 h) fun f cdv A' outer s H vs Q E hr hsp => ⟨t_World_text K A, ?_, pure_World_text hsp⟩
  unfold t_World_text
  exact (pss_one (ps_ret (pe_m1 PySem.F.slot_str_join PySem.F.type_str_join mt_oJoin pe_str (pe_lc rfl sc_World_text.nd (own := [("answer", 1)]) (g := (gName 1)) (tt := tYes) (te := (tOp (oIx K) (tC g_DIGITS) (tVar 1))) (pi_any (pe_fldC T.k_World T.f_World_answers (pv 0))) (blkOk_by (own := [("answer", 1)]) (N := ["self", "answer"]) (sc := defScope s_World_text) (by decide +kernel)) (fun _ _ _ _ _ => (pg_name (i := 1) sc_World_text.nd rfl (Or.inl rfl))) (fun _ _ _ _ _ => pts_nil) (fun _ _ _ _ _ => (pe_ix ix_oIx (pe_gs rfl T.g_DIGITS) (pv 1) (fun _ _ => rfl)))))))
theorem ok_World___iter__ (T : Txt P K mg A) (TX : Caught K A) (h : MHas K A.c_World "__iter__" "World.__iter__" s_World___iter__ ["self"]) : MCal P w K mg base CX0 1 A.c_World "__iter__" ["self"] (sp_World___iter__ K A) := by
  refine h.ok (k := 0) sc_World___iter__ (fun vs H Q E h => len1 h) fun f cdv A' outer s H vs Q E hr hsp => ⟨t_World___iter__ K A, ?_, pure_World___iter__ hsp⟩
  unfold t_World___iter__
  exact (pss_one (ps_ret (pe_callB call_iterT rfl T.n_iter bi_iter (pa_cons (pe_fldC T.k_World T.f_World_answers (pv 0)) pa_nil))))
theorem ok_World___len__ (T : Txt P K mg A) (TX : Caught K A) (h : MHas K A.c_World "__len__" "World.__len__" s_World___len__ ["self"]) : MCal P w K mg base CX0 1 A.c_World "__len__" ["self"] (sp_World___len__ K A) := by
  refine h.ok (k := 0) sc_World___len__ (fun vs H Q E h => len1 h) fun f cdv A' outer s H vs Q E hr hsp => ⟨t_World___len__ K A, ?_, pure_World___len__ hsp⟩
  unfold t_World___len__
  exact (pss_one (ps_ret (pe_callB call_cLen rfl T.n_len bi_len (pa_cons (pe_fldC T.k_World T.f_World_answers (pv 0)) pa_nil))))
theorem ok__law_pool (T : Txt P K mg A) (TX : Caught K A) (h : Has K mg "_law_pool" s__law_pool ["_law_script"]) : Cal P w K mg base CX0 1 "_law_pool" ["_law_script"] (sp__law_pool K A) := by
  refine h.ok (k := 0) sc__law_pool (fun vs H Q E h => len1 h) fun f cdv A' outer s H vs Q E hr hsp => ⟨t__law_pool K A, ?_, pure__law_pool hsp⟩
  unfold t__law_pool
  exact (pss_one (ps_ret (pe_lst (pa_cons (pe_callTy call_cList rfl T.n_list bi_list (pa_cons (pv 0) pa_nil)) (pa_cons pe_int (pa_cons pe_int (pa_cons pe_int (pa_cons pe_int pa_nil))))))))
theorem ok__law_mixed (T : Txt P K mg A) (TX : Caught K A) (h : Has K mg "_law_mixed" s__law_mixed ["_law_cell", "_law_turn", "_law_limit"]) : Cal P w K mg base CX0 1 "_law_mixed" ["_law_cell", "_law_turn", "_law_limit"] (sp__law_mixed K A) := by
  refine h.ok (k := 0) sc__law_mixed (fun vs H Q E h => len3 h) fun f cdv A' outer s H vs Q E hr hsp => ⟨t__law_mixed K A, ?_, pure__law_mixed hsp⟩
  unfold t__law_mixed
  exact (pss_cons (ps_set (i := 3) sc__law_mixed.nd rfl (Or.inl rfl) (pe_op op_oMod (pe_callTy call_cInt rfl T.n_int bi_int (pa_cons (pe_op op_oAdd (pe_op op_oAdd (pe_op op_oMul (pv 0) pe_int) (pe_op op_oMul (pv 1) pe_int)) pe_int) pa_nil)) pe_int))
  (pss_cons (ps_set (i := 4) sc__law_mixed.nd rfl (Or.inl rfl) (pe_op op_oMod (pe_callTy call_cInt rfl T.n_int bi_int (pa_cons (pe_op op_oAdd (pe_op op_oAdd (pe_op op_oMul (pv 3) pe_int) (pe_op op_oMul (pv 0) pe_int)) (pe_op op_oMul (pv 1) pe_int)) pa_nil)) pe_int))
  (pss_cons (ps_set (i := 5) sc__law_mixed.nd rfl (Or.inl rfl) (pe_op op_oMod (pe_callTy call_cInt rfl T.n_int bi_int (pa_cons (pe_op op_oAdd (pe_op op_oMul (pv 4) pe_int) (pe_op op_oDiv (pv 3) pe_int)) pa_nil)) pe_int))
  (pss_one (ps_ret (pe_op op_oMod (pe_callTy call_cInt rfl T.n_int bi_int (pa_cons (pv 5) pa_nil)) (pv 2)))))))
theorem ok__law_less (T : Txt P K mg A) (TX : Caught K A) (h : Has K mg "_law_less" s__law_less ["_law_first", "_law_second"]) : Cal P w K mg base CX0 1 "_law_less" ["_law_first", "_law_second"] (sp__law_less K A) := by
  refine h.ok (k := 0) sc__law_less (fun vs H Q E h => len2 h) fun f cdv A' outer s H vs Q E hr hsp => ⟨t__law_less K A, ?_, pure__law_less hsp⟩
  have hu_ := hu65 hr
  unfold t__law_less
  exact (pss_cons (ps_if (pt_cmpR (op_oNe hu_) (pe_callB call_cLen rfl T.n_len bi_len (pa_cons (pv 0) pa_nil)) (pe_callB call_cLen rfl T.n_len bi_len (pa_cons (pv 1) pa_nil)) (nomark _))
  (pss_one (ps_ret (pe_cmpR op_oLt (pe_callB call_cLen rfl T.n_len bi_len (pa_cons (pv 0) pa_nil)) (pe_callB call_cLen rfl T.n_len bi_len (pa_cons (pv 1) pa_nil)) (nomark _))))
  pss_nil)
  (pss_cons (ps_for PassesOwn.never rfl (pi_range1 rfl T.n_range (pa_cons (pe_callB call_cLen rfl T.n_len bi_len (pa_cons (pv 0) pa_nil)) pa_nil)) (pg_name (i := 2) sc__law_less.nd rfl (Or.inl rfl))
  (pss_one (ps_if (pt_cmpR (op_oNe hu_) (pe_ix ix_oIx (pv 0) (pv 2) (fun _ _ => rfl)) (pe_ix ix_oIx (pv 1) (pv 2) (fun _ _ => rfl)) (nomark _))
  (pss_one (ps_ret (pe_cmpR op_oLt (pe_ix ix_oIx (pv 0) (pv 2) (fun _ _ => rfl)) (pe_ix ix_oIx (pv 1) (pv 2) (fun _ _ => rfl)) (nomark _))))
  pss_nil)))
  (pss_one (ps_ret pe_bl))))
theorem ok__law_draw (T : Txt P K mg A) (TX : Caught K A) (h : Has K mg "_law_draw" s__law_draw ["_law_pool_here", "_law_limit"]) (c__law_mixed : Cal P w K mg base CX0 1 "_law_mixed" ["_law_cell", "_law_turn", "_law_limit"] (sp__law_mixed K A)) : Cal P w K mg base CX0 2 "_law_draw" ["_law_pool_here", "_law_limit"] (sp__law_draw K A) := by
  refine h.ok (k := 1) sc__law_draw (fun vs H Q E h => len2 h) fun f cdv A' outer s H vs Q E hr hsp => ⟨t__law_draw K A, ?_, pure__law_draw hsp⟩
  have hr_ : ∀ j, j ≤ 1 → Room j _ := fun j hj => hr.mono hj
  unfold t__law_draw
  exact (pss_cons (ps_if (pt_cmpR op_oGt (pe_ix ix_oIx (pv 0) pe_int (fun _ _ => rfl)) pe_int (nomark _))
  (pss_cons (ps_set (i := 3) sc__law_draw.nd rfl (Or.inl rfl) (pe_op op_oMod (pe_callTy call_cInt rfl T.n_int bi_int (pa_cons (pe_ix ix_oIx (pv 0) pe_int (fun _ _ => rfl)) pa_nil)) (pv 1)))
  (pss_cons (ps_asg (pe_op op_oDiv (pe_ix ix_oIx (pv 0) pe_int (fun _ _ => rfl)) (pv 1)) (pg_sub (pv 0) pe_int set_list))
  (pss_one (ps_ret (pv 3)))))
  pss_nil)
  (pss_cons (ps_if (pt_cmpR op_oGt (pe_ix ix_oIx (pv 0) pe_int (fun _ _ => rfl)) pe_int (nomark _))
  (pss_cons (ps_asg (pe_op op_oSub (pe_ix ix_oIx (pv 0) pe_int (fun _ _ => rfl)) pe_int) (pg_sub (pv 0) pe_int set_list))
  (pss_one (ps_ret (pe_fn c__law_mixed (hr_ 1 (by decide)) rfl (pa_cons (pe_ix ix_oIx (pv 0) pe_int (fun _ _ => rfl)) (pa_cons (pe_ix ix_oIx (pv 0) pe_int (fun _ _ => rfl)) (pa_cons (pv 1) pa_nil)))))))
  pss_nil)
  (pss_cons (ps_if (pt_cmpR op_oGe (pe_ix ix_oIx (pv 0) pe_int (fun _ _ => rfl)) (pe_callB call_cLen rfl T.n_len bi_len (pa_cons (pe_ix ix_oIx (pv 0) pe_int (fun _ _ => rfl)) pa_nil)) (nomark _))
  (pss_one (ps_ret pe_int))
  pss_nil)
  (pss_cons (ps_set (i := 2) sc__law_draw.nd rfl (Or.inl rfl) (pe_ix ix_oIx (pe_ix ix_oIx (pv 0) pe_int (fun _ _ => rfl)) (pe_ix ix_oIx (pv 0) pe_int (fun _ _ => rfl)) (fun _ _ => rfl)))
  (pss_cons (ps_asg (pe_op op_oAdd (pe_ix ix_oIx (pv 0) pe_int (fun _ _ => rfl)) pe_int) (pg_sub (pv 0) pe_int set_list))
  (pss_cons (ps_if (pt_cmpR op_oLt (pv 2) pe_int (nomark _))
  (pss_one (ps_set (i := 2) sc__law_draw.nd rfl (Or.inl rfl) (pe_op op_oSub (pe_un un_oNeg pe_int) (pv 2))))
  pss_nil)
  (pss_cons (ps_if (pt_cmpR op_oGe (pv 2) (pe_op op_oPow pe_int pe_int) (nomark _))
  (pss_cons (ps_asg (pe_op op_oDiv (pv 2) (pv 1)) (pg_sub (pv 0) pe_int set_list))
  (pss_one (ps_ret (pe_op op_oMod (pe_callTy call_cInt rfl T.n_int bi_int (pa_cons (pv 2) pa_nil)) (pv 1)))))
  pss_nil)
  (pss_cons (ps_asg (pv 2) (pg_sub (pv 0) pe_int set_list))
  (pss_cons (ps_asg pe_int (pg_sub (pv 0) pe_int set_list))
  (pss_one (ps_ret (pe_fn c__law_mixed (hr_ 1 (by decide)) rfl (pa_cons (pv 2) (pa_cons pe_int (pa_cons (pv 1) pa_nil)))))))))))))))
theorem ok_World___add__ (T : Txt P K mg A) (TX : Caught K A) (h : MHas K A.c_World "__add__" "World.__add__" s_World___add__ ["self", "other"]) (c_World___init__ : MCal P w K mg base (L2.CX P w) 1 A.c_World "__init__" ["self", "answers"] (sp_World___init__ K A)) : MCal P w K mg base CX0 3 A.c_World "__add__" ["self", "other"] (sp_World___add__ K A) := by
  refine h.ok (k := 2) sc_World___add__ (fun vs H Q E h => len2 h) fun f cdv A' outer s H vs Q E hr hsp => ⟨t_World___add__ K A, ?_, pure_World___add__ hsp⟩
  have hr_ : ∀ j, j ≤ 2 → Room j _ := fun j hj => hr.mono hj
  unfold t_World___add__
  exact (pss_one (ps_ret (pe_mkS T.m_World c_World___init__ (hr_ 2 (by decide)) (fun _ => pAtN) rfl (pa_cons (pe_op op_oAddX (pe_fldC T.k_World T.f_World_answers (pv 0)) (pe_fldC T.k_World T.f_World_answers (pv 1))) pa_nil))))
theorem ok_World_read (T : Txt P K mg A) (TX : Caught K A) (h : KHas K A.c_World "read" "World.read" s_World_read ["cls", "text"]) (c_World___init__ : MCal P w K mg base (L2.CX P w) 1 A.c_World "__init__" ["self", "answers"] (sp_World___init__ K A)) : KCal P w K mg base (L2.CX P w) 3 A.c_World "read" ["cls", "text"] (sp_World_read K A) := by
  refine h.okX (k := 2) sc_World_read (fun vs H Q E h => len2 h) fun f cdv A' outer s H vs Q E hr hsp => ⟨t_World_read K A E, ?_, pure_World_read hsp⟩
  have hr_ : ∀ j, j ≤ 2 → Room j _ := fun j hj => hr.mono hj
  unfold t_World_read
  exact (pss_one (ps_ret (pe_mkV T.m_World.makes T.m_World.kp c_World___init__ (hr_ 2 (by decide)) (fun _ => pAtP (passes_call (takes_of rfl rfl rfl rfl) fun _ _ _ _ h => h)) (i := 0) rfl (Or.inl rfl) (pa_cons (pe_lc rfl sc_World_read.nd (own := [("digit", 2)]) (g := (gName 2)) (tt := tYes) (te := (tM1 rFind (tC g_DIGITS) (tVar 2))) (pi_any (pv 1)) (blkOk_by (own := [("digit", 2)]) (N := ["cls", "text", "digit"]) (sc := defScope s_World_read) (by decide +kernel)) (fun _ _ _ _ _ => (pg_name (i := 2) sc_World_read.nd rfl (Or.inl rfl))) (fun _ _ _ _ _ => pts_nil) (fun _ _ _ _ _ => (pe_m1 PySem.F.slot_str_find PySem.F.type_str_find mt_oFind (pe_gs rfl T.g_DIGITS) (pv 2)))) pa_nil))))
theorem ok__law_next (T : Txt P K mg A) (TX : Caught K A) (h : Has K mg "_law_next" s__law_next ["_law_pool_here", "_law_row"]) (c__law_draw : Cal P w K mg base CX0 2 "_law_draw" ["_law_pool_here", "_law_limit"] (sp__law_draw K A)) : Cal P w K mg base CX0 3 "_law_next" ["_law_pool_here", "_law_row"] (sp__law_next K A) := by
  refine h.ok (k := 2) sc__law_next (fun vs H Q E h => len2 h) fun f cdv A' outer s H vs Q E hr hsp => ⟨t__law_next K A, ?_, pure__law_next hsp⟩
  have hr_ : ∀ j, j ≤ 2 → Room j _ := fun j hj => hr.mono hj
  have hu_ := hu65 hr
  unfold t__law_next
  exact (pss_cons (ps_set (i := 2) sc__law_next.nd rfl (Or.inl rfl) (pe_fn c__law_draw (hr_ 2 (by decide)) rfl (pa_cons (pv 0) (pa_cons pe_int pa_nil))))
  (pss_cons (ps_set (i := 3) sc__law_next.nd rfl (Or.inl rfl) (pe_fn c__law_draw (hr_ 2 (by decide)) rfl (pa_cons (pv 0) (pa_cons (pe_op op_oAdd (pe_callB call_cLen rfl T.n_len bi_len (pa_cons (pv 1) pa_nil)) pe_int) pa_nil))))
  (pss_cons (ps_if (pt_cmpR (op_oEq hu_) (pv 2) pe_int (nomark _))
  (pss_one (ps_ret (pe_callTy call_cList rfl T.n_list bi_list (pa_cons (pv 1) pa_nil))))
  pss_nil)
  (pss_cons (ps_if (PW.pt (pw_and (pt_cmpR (op_oEq hu_) (pv 2) pe_int (nomark _)) (pw_and1 (pt_cmpR op_oLt (pv 3) (pe_callB call_cLen rfl T.n_len bi_len (pa_cons (pv 1) pa_nil)) (nomark _)))))
  (pss_one (ps_ret (pe_op op_oAdd (pe_op op_oAdd (pe_slice sl_oSl (pv 1) po_none (po_some (pv 3))) (pe_lst (pa_cons (pe_op op_oSub pe_int (pe_ix ix_oIx (pv 1) (pv 3) (fun _ _ => rfl))) pa_nil))) (pe_slice sl_oSl (pv 1) (po_some (pe_op op_oAdd (pv 3) pe_int)) po_none))))
  pss_nil)
  (pss_cons (ps_if (pt_cmpR (op_oEq hu_) (pv 2) pe_int (nomark _))
  (pss_one (ps_ret (pe_op op_oAdd (pe_slice sl_oSl (pv 1) po_none (po_some (pv 3))) (pe_slice sl_oSl (pv 1) (po_some (pe_op op_oAdd (pv 3) pe_int)) po_none))))
  pss_nil)
  (pss_cons (ps_if (PW.pt (pw_and (pt_cmpR (op_oEq hu_) (pv 2) pe_int (nomark _)) (pw_and1 (pt_cmpR op_oLt (pe_callB call_cLen rfl T.n_len bi_len (pa_cons (pv 1) pa_nil)) pe_int (nomark _)))))
  (pss_one (ps_ret (pe_op op_oAdd (pe_op op_oAdd (pe_slice sl_oSl (pv 1) po_none (po_some (pv 3))) (pe_lst (pa_cons (pe_fn c__law_draw (hr_ 2 (by decide)) rfl (pa_cons (pv 0) (pa_cons pe_int pa_nil))) pa_nil))) (pe_slice sl_oSl (pv 1) (po_some (pv 3)) po_none))))
  pss_nil)
  (pss_one (ps_ret (pe_lc rfl sc__law_next.nd (own := [("_law_k", 4)]) (g := (gName 4)) (tt := tYes) (te := (tCall (sp__law_draw K A) [] E0 (tCons (tVar 0) (tCons (tC (.int 2)) tNil)))) (pi_range1 rfl T.n_range (pa_cons (pe_fn c__law_draw (hr_ 2 (by decide)) rfl (pa_cons (pv 0) (pa_cons pe_int pa_nil))) pa_nil)) (blkOk_by (own := [("_law_k", 4)]) (N := ["_law_pool_here", "_law_row", "_law_way", "_law_at", "_law_k"]) (sc := defScope s__law_next) (by decide +kernel)) (fun _ _ _ _ _ => (pg_name (i := 4) sc__law_next.nd rfl (Or.inl rfl))) (fun _ _ _ _ _ => pts_nil) (fun _ _ _ _ _ => (pe_fn c__law_draw (hr_ 2 (by decide)) rfl (pa_cons (pv 0) (pa_cons pe_int pa_nil)))))))))))))
theorem rec__law_same (T : Txt P K mg A) (TX : Caught K A) (h : Has K mg "_law_same" s__law_same ["_law_actual", "_law_expected"]) : ∀ n, Cal P w K mg base CX0 (n + 1) "_law_same" ["_law_actual", "_law_expected"] (rec_law_same K A n)
  | 0 => h.void (fun _ _ _ _ z => no_law_same z)
  | n + 1 => by
    have c_rec := rec__law_same T TX h n
    refine h.ok (k := n + 1) sc__law_same (fun vs H Q E h => len2 h) fun f cdv A' outer s H vs Q E hr hsp => ⟨t__law_same K A (rec_law_same K A n), ?_, pure__law_same hsp⟩
    have hu_ := hu65 hr
    unfold t__law_same
    exact (pss_cons (ps_if (pt_cmpR op_oIsN (pv 1) pe_non (nomark _))
  (pss_one (ps_ret (pe_cmpR op_oIsN (pv 0) pe_non (nomark _))))
  pss_nil)
  (pss_cons (ps_if (pt_val (pe_callB call_cIsi rfl T.n_isinstance bi_isinstance (pa_cons (pv 1) (pa_cons (pe_bltn (v := .ty "bool") rfl T.n_bool bi_bool rfl) pa_nil))))
  (pss_one (ps_ret (pe_and (pe_callB call_cIsi rfl T.n_isinstance bi_isinstance (pa_cons (pv 0) (pa_cons (pe_bltn (v := .ty "bool") rfl T.n_bool bi_bool rfl) pa_nil))) (pe_one (pe_cmpR (op_oEq hu_) (pv 0) (pv 1) (nomark _))))))
  pss_nil)
  (pss_cons (ps_if (pt_val (pe_callB call_cIsi rfl T.n_isinstance bi_isinstance (pa_cons (pv 1) (pa_cons (pe_bltn (v := .ty "int") rfl T.n_int bi_int rfl) pa_nil))))
  (pss_one (ps_ret (pe_and (pe_callB call_cIsi rfl T.n_isinstance bi_isinstance (pa_cons (pv 0) (pa_cons (pe_bltn (v := .ty "int") rfl T.n_int bi_int rfl) pa_nil))) (pe_and (pe_not (pe_callB call_cIsi rfl T.n_isinstance bi_isinstance (pa_cons (pv 0) (pa_cons (pe_bltn (v := .ty "bool") rfl T.n_bool bi_bool rfl) pa_nil)))) (pe_one (pe_cmpR (op_oEq hu_) (pv 0) (pv 1) (nomark _)))))))
  pss_nil)
  (pss_cons (ps_if (pt_val (pe_callB call_cIsi rfl T.n_isinstance bi_isinstance (pa_cons (pv 1) (pa_cons (pe_bltn (v := .ty "str") rfl T.n_str bi_str rfl) pa_nil))))
  (pss_one (ps_ret (pe_and (pe_callB call_cIsi rfl T.n_isinstance bi_isinstance (pa_cons (pv 0) (pa_cons (pe_bltn (v := .ty "str") rfl T.n_str bi_str rfl) pa_nil))) (pe_one (pe_cmpR (op_oEq hu_) (pv 0) (pv 1) (nomark _))))))
  pss_nil)
  (pss_cons (ps_if (PW.pt (pw_and (pt_val (pe_callB call_cIsi rfl T.n_isinstance bi_isinstance (pa_cons (pv 1) (pa_cons (pe_bltn (v := .ty "tuple") rfl T.n_tuple bi_tuple rfl) pa_nil)))) (pw_and1 (pt_not (pt_val (pe_callB call_cIsi rfl T.n_isinstance bi_isinstance (pa_cons (pv 0) (pa_cons (pe_bltn (v := .ty "tuple") rfl T.n_tuple bi_tuple rfl) pa_nil))))))))
  (pss_one (ps_ret pe_bl))
  pss_nil)
  (pss_cons (ps_if (PW.pt (pw_and (pt_val (pe_callB call_cIsi rfl T.n_isinstance bi_isinstance (pa_cons (pv 1) (pa_cons (pe_bltn (v := .ty "list") rfl T.n_list bi_list rfl) pa_nil)))) (pw_and1 (pt_not (pt_val (pe_callB call_cIsi rfl T.n_isinstance bi_isinstance (pa_cons (pv 0) (pa_cons (pe_bltn (v := .ty "list") rfl T.n_list bi_list rfl) pa_nil))))))))
  (pss_one (ps_ret pe_bl))
  pss_nil)
  (pss_cons (ps_if (pt_cmpR (op_oNe hu_) (pe_callB call_cLen rfl T.n_len bi_len (pa_cons (pv 0) pa_nil)) (pe_callB call_cLen rfl T.n_len bi_len (pa_cons (pv 1) pa_nil)) (nomark _))
  (pss_one (ps_ret pe_bl))
  pss_nil)
  (pss_cons (ps_for PassesOwn.never rfl (pi_range1 rfl T.n_range (pa_cons (pe_callB call_cLen rfl T.n_len bi_len (pa_cons (pv 1) pa_nil)) pa_nil)) (pg_name (i := 2) sc__law_same.nd rfl (Or.inl rfl))
  (pss_one (ps_if (pt_not (pt_val (pe_fn c_rec hr rfl (pa_cons (pe_ix ix_oIx (pv 0) (pv 2) (fun _ _ => rfl)) (pa_cons (pe_ix ix_oIx (pv 1) (pv 2) (fun _ _ => rfl)) pa_nil)))))
  (pss_one (ps_ret pe_bl))
  pss_nil)))
  (pss_one (ps_ret pe_bl))))))))))
theorem ok__law_same (T : Txt P K mg A) (TX : Caught K A) (h : Has K mg "_law_same" s__law_same ["_law_actual", "_law_expected"]) : Cal P w K mg base CX0 7 "_law_same" ["_law_actual", "_law_expected"] (sp__law_same K A) := rec__law_same T TX h 6
theorem ok__law_compared (T : Txt P K mg A) (TX : Caught K A) (h : Has K mg "_law_compared" s__law_compared ["_law_one", "_law_two", "_law_first", "_law_second"]) (c__law_less : Cal P w K mg base CX0 1 "_law_less" ["_law_first", "_law_second"] (sp__law_less K A)) (c__law_same : Cal P w K mg base CX0 7 "_law_same" ["_law_actual", "_law_expected"] (sp__law_same K A)) (c_World___lt__ : MCal P w K mg base CX0 1 A.c_World "__lt__" ["self", "other"] (sp_World___lt__ K A)) (c_World___gt__ : MCal P w K mg base CX0 1 A.c_World "__gt__" ["self", "other"] (sp_World___gt__ K A)) (c_World___le__ : MCal P w K mg base CX0 1 A.c_World "__le__" ["self", "other"] (sp_World___le__ K A)) (c_World___ge__ : MCal P w K mg base CX0 1 A.c_World "__ge__" ["self", "other"] (sp_World___ge__ K A)) (c_World___eq__ : MCal P w K mg base CX0 1 A.c_World "__eq__" ["self", "other"] (sp_World___eq__ K A)) : Cal P w K mg base CX0 8 "_law_compared" ["_law_one", "_law_two", "_law_first", "_law_second"] (sp__law_compared K A) := by
  refine h.ok (k := 7) sc__law_compared (fun vs H Q E h => len4 h) fun f cdv A' outer s H vs Q E hr hsp => ⟨t__law_compared K A, ?_, pure__law_compared hsp⟩
  have hr_ : ∀ j, j ≤ 7 → Room j _ := fun j hj => hr.mono hj
  unfold t__law_compared
  exact (pss_cons (ps_set (i := 4) sc__law_compared.nd rfl (Or.inl rfl) (pe_fn c__law_less (hr_ 1 (by decide)) rfl (pa_cons (pv 2) (pa_cons (pv 3) pa_nil))))
  (pss_cons (ps_set (i := 5) sc__law_compared.nd rfl (Or.inl rfl) (pe_fn c__law_less (hr_ 1 (by decide)) rfl (pa_cons (pv 3) (pa_cons (pv 2) pa_nil))))
  (pss_cons (ps_if (PW.pt (pw_or (pt_not (pt_val (pe_fn c__law_same (hr_ 7 (by decide)) rfl (pa_cons (pe_cmpR (op_ltO c_World___lt__ (hr_ 1 (by decide)) pass0) (pv 0) (pv 1) (nomark _)) (pa_cons (pv 4) pa_nil))))) (pw_or1 (pt_not (pt_val (pe_fn c__law_same (hr_ 7 (by decide)) rfl (pa_cons (pe_cmpR (op_gtO c_World___gt__ (hr_ 1 (by decide)) pass0) (pv 0) (pv 1) (nomark _)) (pa_cons (pv 5) pa_nil))))))))
  (pss_one (ps_ret pe_bl))
  pss_nil)
  (pss_cons (ps_if (PW.pt (pw_or (pt_not (pt_val (pe_fn c__law_same (hr_ 7 (by decide)) rfl (pa_cons (pe_cmpR (op_leO c_World___le__ (hr_ 1 (by decide)) pass0) (pv 0) (pv 1) (nomark _)) (pa_cons (pe_not (pv 5)) pa_nil))))) (pw_or1 (pt_not (pt_val (pe_fn c__law_same (hr_ 7 (by decide)) rfl (pa_cons (pe_cmpR (op_geO c_World___ge__ (hr_ 1 (by decide)) pass0) (pv 0) (pv 1) (nomark _)) (pa_cons (pe_not (pv 4)) pa_nil))))))))
  (pss_one (ps_ret pe_bl))
  pss_nil)
  (pss_one (ps_ret (pe_and (pe_fn c__law_same (hr_ 7 (by decide)) rfl (pa_cons (pe_cmpR (op_eqO c_World___eq__ (hr_ 1 (by decide)) pass0) (pv 0) (pv 1) (nomark _)) (pa_cons (pe_and (pe_not (pv 4)) (pe_one (pe_not (pv 5)))) pa_nil))) (pe_one (pe_fn c__law_same (hr_ 7 (by decide)) rfl (pa_cons (pe_cmpR (op_neO T.ne_World.1 T.ne_World.2 c_World___eq__ (hr_ 2 (by decide)) pass0) (pv 0) (pv 1) (nomark _)) (pa_cons (pe_or (pv 4) (pe_one (pv 5))) pa_nil)))))))))))
theorem ok__law_holds (T : Txt P K mg A) (TX : Caught K A) (h : Has K mg "_law_holds" s__law_holds ["_law_world", "_law_row"]) (c__law_same : Cal P w K mg base CX0 7 "_law_same" ["_law_actual", "_law_expected"] (sp__law_same K A)) (c_World___len__ : MCal P w K mg base CX0 1 A.c_World "__len__" ["self"] (sp_World___len__ K A)) (c_World___iter__ : MCal P w K mg base CX0 1 A.c_World "__iter__" ["self"] (sp_World___iter__ K A)) (c_World_text : Prp P w K mg base CX0 1 A.c_World "text" (sp_World_text K A)) : Cal P w K mg base CX0 8 "_law_holds" ["_law_world", "_law_row"] (sp__law_holds K A) := by
  refine h.ok (k := 7) sc__law_holds (fun vs H Q E h => len2 h) fun f cdv A' outer s H vs Q E hr hsp => ⟨t__law_holds K A, ?_, pure__law_holds TX hsp⟩
  have hr_ : ∀ j, j ≤ 7 → Room j _ := fun j hj => hr.mono hj
  unfold t__law_holds
  exact (pss_cons (ps_if (PW.pt (pw_or (pt_not (pt_val (pe_callB call_cIsiO rfl T.n_isinstance bi_isinstance (pa_cons (pv 0) (pa_cons (pe_glob (v := .ref A.c_World) rfl T.c_World rfl) pa_nil))))) (pw_or (pt_not (pt_val (pe_fn c__law_same (hr_ 7 (by decide)) rfl (pa_cons (pe_fldC T.k_World T.f_World_answers (pv 0)) (pa_cons (pe_callTy call_cTupX rfl T.n_tuple bi_tuple (pa_cons (pv 1) pa_nil)) pa_nil))))) (pw_or1 (pt_not (pt_val (pe_fn c__law_same (hr_ 7 (by decide)) rfl (pa_cons (pe_callB (call_lenO c_World___len__ (hr_ 2 (by decide)) pass0) rfl T.n_len bi_len (pa_cons (pv 0) pa_nil)) (pa_cons (pe_callB call_cLen rfl T.n_len bi_len (pa_cons (pv 1) pa_nil)) pa_nil)))))))))
  (pss_one (ps_ret pe_bl))
  pss_nil)
  (pss_one (ps_ret (pe_and (pe_fn c__law_same (hr_ 7 (by decide)) rfl (pa_cons (pe_callTy (call_listO2 c_World___iter__ c_World___len__ (hr_ 5 (by decide))) rfl T.n_list bi_list (pa_cons (pv 0) pa_nil)) (pa_cons (pv 1) pa_nil))) (pe_one (pe_fn c__law_same (hr_ 7 (by decide)) rfl (pa_cons (pe_prp (pv 0) T.k_World c_World_text (hr_ 2 (by decide)) pass0) (pa_cons (pe_m1 PySem.F.slot_str_join PySem.F.type_str_join mt_oJoin pe_str (pe_lc rfl sc__law_holds.nd (own := [("_law_answer", 2)]) (g := (gName 2)) (tt := tYes) (te := (tCB cStr (tCons (tVar 2) tNil))) (pi_any (pv 1)) (blkOk_by (own := [("_law_answer", 2)]) (N := ["_law_world", "_law_row", "_law_answer"]) (sc := defScope s__law_holds) (by decide +kernel)) (fun _ _ _ _ _ => (pg_name (i := 2) sc__law_holds.nd rfl (Or.inl rfl))) (fun _ _ _ _ _ => pts_nil) (fun _ _ _ _ _ => (pe_callTy call_cStr rfl T.n_str bi_str (pa_cons (pv 2) pa_nil))))) pa_nil))))))))
theorem ok_law {f : Addr} {fd : FuncData} (F : Fun K "law" "law" s_law f fd) (T : Txt P K mg A) (TX : Caught K A) (c__law_pool : Cal P w K mg base CX0 1 "_law_pool" ["_law_script"] (sp__law_pool K A)) (c__law_draw : Cal P w K mg base CX0 2 "_law_draw" ["_law_pool_here", "_law_limit"] (sp__law_draw K A)) (c__law_next : Cal P w K mg base CX0 3 "_law_next" ["_law_pool_here", "_law_row"] (sp__law_next K A)) (c_World___init__ : MCal P w K mg base (L2.CX P w) 1 A.c_World "__init__" ["self", "answers"] (sp_World___init__ K A)) (c_World_read : KCal P w K mg base (L2.CX P w) 3 A.c_World "read" ["cls", "text"] (sp_World_read K A)) (c__law_holds : Cal P w K mg base CX0 8 "_law_holds" ["_law_world", "_law_row"] (sp__law_holds K A)) (c__law_compared : Cal P w K mg base CX0 8 "_law_compared" ["_law_one", "_law_two", "_law_first", "_law_second"] (sp__law_compared K A)) (c_World___add__ : MCal P w K mg base CX0 3 A.c_World "__add__" ["self", "other"] (sp_World___add__ K A)) : FnOk P w K mg base CX0 9 f fd ["_law_script"] (sp_law K A) := by
  refine F.ok (k := 8) sc_law (fun vs H Q E h => len1 h) fun cdv A' outer s H vs Q E hr hsp => ⟨t_law K A, ?_, pure_law hsp⟩
  have hr_ : ∀ j, j ≤ 8 → Room j _ := fun j hj => hr.mono hj
  unfold t_law
  exact (pss_cons (ps_set (i := 1) sc_law.nd rfl (Or.inr rfl) (pe_fn c__law_pool (hr_ 1 (by decide)) rfl (pa_cons (pv 0) pa_nil)))
  (pss_cons (ps_setLc (i := 2) rfl sc_law.nd rfl rfl (sw_true rfl rfl rfl (by decide +kernel)) (own := [("_law_k", 8)]) (g := (gName 8)) (tt := tYes) (te := (tCall (sp__law_draw K A) [] E0 (tCons (tVar 1) (tCons (tC (.int 2)) tNil)))) (pi_range1 rfl T.n_range (pa_cons (pe_fn c__law_draw (hr_ 2 (by decide)) rfl (pa_cons (pv 1) (pa_cons pe_int pa_nil))) pa_nil)) (blkOk_by (own := [("_law_k", 8)]) (N := ["_law_script", "_law_pool_here", "_law_first", "_law_second", "_law_third", "_law_rows", "_law_made", "_law_turn", "_law_k", "_law_m", "_law_answer"]) (sc := defScope s_law) (by decide +kernel)) (fun _ _ _ _ _ => (pg_name (i := 8) sc_law.nd rfl (Or.inl rfl))) (fun _ _ _ _ _ => pts_nil) (fun _ _ _ _ _ => (pe_fn c__law_draw (hr_ 2 (by decide)) rfl (pa_cons (pv 1) (pa_cons pe_int pa_nil)))))
  (pss_cons (ps_set (i := 3) sc_law.nd rfl (Or.inl rfl) (pe_fn c__law_next (hr_ 3 (by decide)) rfl (pa_cons (pv 1) (pa_cons (pv 2) pa_nil))))
  (pss_cons (ps_set (i := 4) sc_law.nd rfl (Or.inl rfl) (pe_fn c__law_next (hr_ 3 (by decide)) rfl (pa_cons (pv 1) (pa_cons (pv 3) pa_nil))))
  (pss_cons (ps_set (i := 5) sc_law.nd rfl (Or.inl rfl) (pe_lst (pa_cons (pv 2) (pa_cons (pv 3) (pa_cons (pv 4) (pa_cons (pv 2) pa_nil))))))
  (pss_cons (ps_set (i := 6) sc_law.nd rfl (Or.inl rfl) (pe_lst (pa_cons (pe_mkS T.m_World c_World___init__ (hr_ 2 (by decide)) (fun _ => pAtN) rfl (pa_cons (pv 2) pa_nil)) (pa_cons (pe_kmS (pe_glob (v := .ref A.c_World) rfl T.c_World rfl) T.r_World c_World_read (hr_ 3 (by decide)) (fun _ => pAtN) (pa_cons (pe_m1 PySem.F.slot_str_join PySem.F.type_str_join mt_oJoin pe_str (pe_lc rfl sc_law.nd (own := [("_law_answer", 10)]) (g := (gName 10)) (tt := tYes) (te := (tCB cStr (tCons (tVar 10) tNil))) (pi_any (pv 3)) (blkOk_by (own := [("_law_answer", 10)]) (N := ["_law_script", "_law_pool_here", "_law_first", "_law_second", "_law_third", "_law_rows", "_law_made", "_law_turn", "_law_k", "_law_m", "_law_answer"]) (sc := defScope s_law) (by decide +kernel)) (fun _ _ _ _ _ => (pg_name (i := 10) sc_law.nd rfl (Or.inl rfl))) (fun _ _ _ _ _ => pts_nil) (fun _ _ _ _ _ => (pe_callTy call_cStr rfl T.n_str bi_str (pa_cons (pv 10) pa_nil))))) pa_nil)) (pa_cons (pe_mkS T.m_World c_World___init__ (hr_ 2 (by decide)) (fun _ => pAtN) rfl (pa_cons (pe_callTy call_cTupX rfl T.n_tuple bi_tuple (pa_cons (pv 4) pa_nil)) pa_nil)) (pa_cons (pe_mkS T.m_World c_World___init__ (hr_ 2 (by decide)) (fun _ => pAtN) rfl (pa_cons (pe_callTy call_cList rfl T.n_list bi_list (pa_cons (pv 2) pa_nil)) pa_nil)) pa_nil))))))
  (pss_cons (ps_for PassesOwn.never rfl (pi_range1 rfl T.n_range (pa_cons pe_int pa_nil)) (pg_name (i := 7) sc_law.nd rfl (Or.inl rfl))
  (pss_one (ps_for PassesOwn.never rfl (pi_range1 rfl T.n_range (pa_cons pe_int pa_nil)) (pg_name (i := 8) sc_law.nd rfl (Or.inl rfl))
  (pss_cons (ps_if (pt_not (pt_val (pe_fn c__law_holds (hr_ 8 (by decide)) rfl (pa_cons (pe_ix ix_oIx (pv 6) (pv 8) (fun _ _ => rfl)) (pa_cons (pe_ix ix_oIx (pv 5) (pv 8) (fun _ _ => rfl)) pa_nil)))))
  (pss_one (ps_ret pe_bl))
  pss_nil)
  (pss_one (ps_for PassesOwn.never rfl (pi_range1 rfl T.n_range (pa_cons pe_int pa_nil)) (pg_name (i := 9) sc_law.nd rfl (Or.inl rfl))
  (pss_cons (ps_if (pt_not (pt_val (pe_fn c__law_compared (hr_ 8 (by decide)) rfl (pa_cons (pe_ix ix_oIx (pv 6) (pv 8) (fun _ _ => rfl)) (pa_cons (pe_ix ix_oIx (pv 6) (pv 9) (fun _ _ => rfl)) (pa_cons (pe_ix ix_oIx (pv 5) (pv 8) (fun _ _ => rfl)) (pa_cons (pe_ix ix_oIx (pv 5) (pv 9) (fun _ _ => rfl)) pa_nil)))))))
  (pss_one (ps_ret pe_bl))
  pss_nil)
  (pss_one (ps_if (pt_not (pt_val (pe_fn c__law_holds (hr_ 8 (by decide)) rfl (pa_cons (pe_op (op_binO (op := .Add) rfl T.sf_World c_World___add__ (hr_ 3 (by decide)) pass0) (pe_ix ix_oIx (pv 6) (pv 8) (fun _ _ => rfl)) (pe_ix ix_oIx (pv 6) (pv 9) (fun _ _ => rfl))) (pa_cons (pe_op op_oAdd (pe_ix ix_oIx (pv 5) (pv 8) (fun _ _ => rfl)) (pe_ix ix_oIx (pv 5) (pv 9) (fun _ _ => rfl))) pa_nil)))))
  (pss_one (ps_ret pe_bl))
  pss_nil)))))))))
  (pss_one (ps_ret pe_bl)))))))))
end
theorem all_law {P : Program} {w : World} {K : PySem.W.Frag} {mg : Str → Option Value} {A : Ad} {fa : Addr} (hfa : mg "law" = some (.ref fa)) (T : Txt P K mg A) (TX : Caught K A)
    (h_World___init__ : MHas K A.c_World "__init__" "World.__init__" s_World___init__ ["self", "answers"])
    (h_World___eq__ : MHas K A.c_World "__eq__" "World.__eq__" s_World___eq__ ["self", "other"])
    (h_World___ge__ : MHas K A.c_World "__ge__" "World.__ge__" s_World___ge__ ["self", "other"])
    (h_World___le__ : MHas K A.c_World "__le__" "World.__le__" s_World___le__ ["self", "other"])
    (h_World___gt__ : MHas K A.c_World "__gt__" "World.__gt__" s_World___gt__ ["self", "other"])
    (h_World___lt__ : MHas K A.c_World "__lt__" "World.__lt__" s_World___lt__ ["self", "other"])
    (h_World_text : PHas K A.c_World "text" "World.text" s_World_text ["self"])
    (h_World___iter__ : MHas K A.c_World "__iter__" "World.__iter__" s_World___iter__ ["self"])
    (h_World___len__ : MHas K A.c_World "__len__" "World.__len__" s_World___len__ ["self"])
    (h__law_pool : Has K mg "_law_pool" s__law_pool ["_law_script"])
    (h__law_mixed : Has K mg "_law_mixed" s__law_mixed ["_law_cell", "_law_turn", "_law_limit"])
    (h__law_less : Has K mg "_law_less" s__law_less ["_law_first", "_law_second"])
    (h__law_draw : Has K mg "_law_draw" s__law_draw ["_law_pool_here", "_law_limit"])
    (h_World___add__ : MHas K A.c_World "__add__" "World.__add__" s_World___add__ ["self", "other"])
    (h_World_read : KHas K A.c_World "read" "World.read" s_World_read ["cls", "text"])
    (h__law_next : Has K mg "_law_next" s__law_next ["_law_pool_here", "_law_row"])
    (h__law_same : Has K mg "_law_same" s__law_same ["_law_actual", "_law_expected"])
    (h__law_compared : Has K mg "_law_compared" s__law_compared ["_law_one", "_law_two", "_law_first", "_law_second"])
    (h__law_holds : Has K mg "_law_holds" s__law_holds ["_law_world", "_law_row"])
    (h_law : Has K mg "law" s_law ["_law_script"])
    : ∃ fd : FuncData, (∀ (s : Shared) (u : Value), BindsTo s fd ⟨[u], []⟩ [("_law_script", u)]) ∧ ∀ base : Heap, K.In base → base.Ns mainGlobals mg → FnOk P w K mg base CX0 9 fa fd ["_law_script"] (sp_law K A) := by
  refine law_end h_law hfa fun base hi hn f fd F => ?_
  have c_World___init__ := ok_World___init__ (P := P) (w := w) (base := base) T TX h_World___init__
  have c_World___eq__ := ok_World___eq__ (P := P) (w := w) (base := base) T TX h_World___eq__
  have c_World___ge__ := ok_World___ge__ (P := P) (w := w) (base := base) T TX h_World___ge__
  have c_World___le__ := ok_World___le__ (P := P) (w := w) (base := base) T TX h_World___le__
  have c_World___gt__ := ok_World___gt__ (P := P) (w := w) (base := base) T TX h_World___gt__
  have c_World___lt__ := ok_World___lt__ (P := P) (w := w) (base := base) T TX h_World___lt__
  have c_World_text := ok_World_text (P := P) (w := w) (base := base) T TX h_World_text
  have c_World___iter__ := ok_World___iter__ (P := P) (w := w) (base := base) T TX h_World___iter__
  have c_World___len__ := ok_World___len__ (P := P) (w := w) (base := base) T TX h_World___len__
  have c__law_pool := ok__law_pool (P := P) (w := w) (base := base) T TX h__law_pool
  have c__law_mixed := ok__law_mixed (P := P) (w := w) (base := base) T TX h__law_mixed
  have c__law_less := ok__law_less (P := P) (w := w) (base := base) T TX h__law_less
  have c__law_draw := ok__law_draw (P := P) (w := w) (base := base) T TX h__law_draw c__law_mixed
  have c_World___add__ := ok_World___add__ (P := P) (w := w) (base := base) T TX h_World___add__ c_World___init__
  have c_World_read := ok_World_read (P := P) (w := w) (base := base) T TX h_World_read c_World___init__
  have c__law_next := ok__law_next (P := P) (w := w) (base := base) T TX h__law_next c__law_draw
  have c__law_same := ok__law_same (P := P) (w := w) (base := base) T TX h__law_same
  have c__law_compared := ok__law_compared (P := P) (w := w) (base := base) T TX h__law_compared c__law_less c__law_same c_World___lt__ c_World___gt__ c_World___le__ c_World___ge__ c_World___eq__
  have c__law_holds := ok__law_holds (P := P) (w := w) (base := base) T TX h__law_holds c__law_same c_World___len__ c_World___iter__ c_World_text
  exact ok_law F T TX c__law_pool c__law_draw c__law_next c_World___init__ c_World_read c__law_holds c__law_compared c_World___add__
theorem all_mk {P : Program} {w : World} {K : PySem.W.Frag} {h : Heap} {mg : Str → Option Value} {fa : Addr} (X : K.In h) (G : h.Ns mainGlobals mg) (hfa : mg "law" = some (.ref fa))
    (n_bool : PySem.W.nsIn K mainGlobals "bool" = some none)
    (n_enumerate : PySem.W.nsIn K mainGlobals "enumerate" = some none)
    (n_int : PySem.W.nsIn K mainGlobals "int" = some none)
    (n_isinstance : PySem.W.nsIn K mainGlobals "isinstance" = some none)
    (n_iter : PySem.W.nsIn K mainGlobals "iter" = some none)
    (n_len : PySem.W.nsIn K mainGlobals "len" = some none)
    (n_list : PySem.W.nsIn K mainGlobals "list" = some none)
    (n_range : PySem.W.nsIn K mainGlobals "range" = some none)
    (n_str : PySem.W.nsIn K mainGlobals "str" = some none)
    (n_tuple : PySem.W.nsIn K mainGlobals "tuple" = some none)
    {u_DIGITS : Value}
    (z_DIGITS : PySem.W.nsIn K mainGlobals "DIGITS" = some (some u_DIGITS))
    (r_DIGITS : L2.RelV Ov.g_DIGITS u_DIGITS)
    {c_BadWorld : Addr}
    (a_BadWorld : PySem.W.nsIn K mainGlobals "BadWorld" = some (some (.ref c_BadWorld)))
    {c_World : Addr}
    (a_World : PySem.W.nsIn K mainGlobals "World" = some (some (.ref c_World)))
    (pg_World : PySem.W.plainGet K c_World Str.empty = true)
    (hd_World : PySem.W.hasDictIn K c_World = true)
    (po_World : PySem.W.plainOver K c_World = true)
    (sa_World : PySem.W.findIn K (.ref c_World) "__setattr__" = some (some (.builtin "object.__setattr__")))
    (mk_World : PySem.W.makesIn K c_World = true)
    (kc_World : PySem.W.keepIn K (.ref c_World) = true)
    (ne_World : PySem.W.findIn K (.ref c_World) "__ne__" = some (some (.builtin "object.__ne__")))
    (nm_World : PySem.W.mroIn K c_World (.type "object") = some true)
    (sf_World : PySem.W.selfFirst K c_World = true)
    (rd_World : PySem.W.readsIn K c_World (.type "type") = true)
    (rg_World : PySem.W.specialIn K (.ref c_World) "__getattribute__" = some (some (.builtin "type.__getattribute__")))
    (nf_World_answers : PySem.W.findIn K (.ref c_World) "answers" = some none)
    (opq : PySem.W.nsIn K cStatics "thirdparty.any" = some none)
    (sup : PySem.W.nsIn K mainGlobals "super" = some none)
    (top : (P.main.scope.names.lookup ("super" : Str)).isSome = false)
    {i_BadWorld : Addr} {nm_BadWorld qn_BadWorld : Str} {N_BadWorld : Addr} {bs_BadWorld bm_BadWorld : List Value} {sn_BadWorld : List Str} {sub_BadWorld : List Value} {ab_BadWorld : Bool} {col_BadWorld : Option Bool} {dd_BadWorld : Option Addr} {k0_BadWorld k1_BadWorld k2_BadWorld k3_BadWorld k5_BadWorld : Option Value}
    (x_BadWorld : K.lookup c_BadWorld = some (excClassObj nm_BadWorld qn_BadWorld c_BadWorld N_BadWorld bs_BadWorld bm_BadWorld true sn_BadWorld sub_BadWorld ab_BadWorld col_BadWorld dd_BadWorld k0_BadWorld k1_BadWorld k2_BadWorld k3_BadWorld k5_BadWorld "ValueError.__new__"))
    (ve_BadWorld : PySem.HandSPX.refsVE bm_BadWorld = true)
    (al_BadWorld : PySem.W.ks_superIn K c_BadWorld c_BadWorld "__init__" = some (some (.builtin "ValueError.__init__")))
    (sa_BadWorld : PySem.W.findIn K (.ref c_BadWorld) "__setattr__" = some (some (.builtin "object.__setattr__")))
    (no_BadWorld : PySem.W.findIn K (.ref c_BadWorld) "at" = some none)
    (in_BadWorld : PySem.W.findIn K (.ref c_BadWorld) "__init__" = some (some (.ref i_BadWorld)))
    (ti_BadWorld : PySem.W.typeIn K (.ref i_BadWorld) = some (.type "function"))
    (kc_BadWorld : PySem.W.keepIn K (.ref c_BadWorld) = true)
    (ex_BadWorld : PySem.W.subIn K (.ref c_BadWorld) (.type "BaseException") = some true)
    (vc_BadWorld : PySem.W.subIn K (.ref c_BadWorld) (.type "ValueError") = some true)
    (sl_BadWorld : PySem.W.mroIn K c_BadWorld (.ref c_BadWorld) = some true)
    (ty_BadWorld : PySem.W.typeIn K (.ref c_BadWorld) = some (.type "type"))
    {ocx_BadWorld docx_BadWorld pmx_BadWorld ctx_BadWorld cclx_BadWorld clx_BadWorld : Value} {odx_BadWorld anx_BadWorld cddx_BadWorld cldx_BadWorld : Option Addr} {cdax_BadWorld ccx_BadWorld : Addr} {oslx_BadWorld ccsx_BadWorld cslx_BadWorld : Array (Option Value)} {vsx_BadWorld : Array Value} {filex_BadWorld : Str} {tfx_BadWorld : Tok}
    (li_BadWorld : K.lookup i_BadWorld = some ⟨ocx_BadWorld, odx_BadWorld, .func (PySem.W.ksFn "__init__" "BadWorld.__init__" (defArgs (inClass (topS 2) 0)) (defBody (inClass (topS 2) 0)) (defScope (inClass (topS 2) 0)) .none .none docx_BadWorld pmx_BadWorld anx_BadWorld (.ref cdax_BadWorld) ctx_BadWorld ccx_BadWorld), oslx_BadWorld⟩)
    (ci_BadWorld : PySem.W.codeIn K (.ref cdax_BadWorld) "BadWorld.__init__" = true)
    (cd_BadWorld : K.lookup cdax_BadWorld = some ⟨cclx_BadWorld, cddx_BadWorld, .fields vsx_BadWorld, ccsx_BadWorld⟩)
    (fv_BadWorld : vsx_BadWorld[2]? = some (.str filex_BadWorld tfx_BadWorld))
    (fl_BadWorld : ((P.main.file : Str) == filex_BadWorld) = true)
    (ce_BadWorld : K.lookup ccx_BadWorld = some ⟨clx_BadWorld, cldx_BadWorld, .cell (some (.ref c_BadWorld)), cslx_BadWorld⟩)
    (sp : PySem.W.specialIn K (.builtin "object.__class__") "__get__" = some (some (.builtin "getset_descriptor.__get__")))
    (tk : PySem.W.takesIn K (.builtin "object.__class__") = some true)
    (oc_World : PySem.W.findIn K (.ref c_World) "__class__" = some (some (.builtin "object.__class__")))
    (om_World : PySem.W.mroIn K c_World (.type "object") = some true)
    (io_World : PySem.W.kitOne K (.ref c_World) (.ref c_World) = some true)
    {f0 : Addr} {oc0 : Value} {od0 an0 : Option Addr} {sl0 : Array (Option Value)} {kV0 dc0 pm0 cd0 ct0 : Value}
    (a0 : PySem.W.findIn K (.ref c_World) "__init__" = some (some (.ref f0)))
    (t0 : PySem.W.isFn K (.ref f0) = true)
    (l0 : K.lookup f0 = some ⟨oc0, od0, .func (PySem.W.fnOf "__init__" "World.__init__" (defArgs s_World___init__) (defBody s_World___init__) (defScope s_World___init__) .none kV0 dc0 pm0 an0 cd0 ct0), sl0⟩)
    (c0 : PySem.W.codeIn K cd0 "World.__init__" = true)
    (k0 : PySem.W.keepIn K (.ref f0) = true)
    {f1 : Addr} {oc1 : Value} {od1 an1 : Option Addr} {sl1 : Array (Option Value)} {kV1 dc1 pm1 cd1 ct1 : Value}
    (a1 : PySem.W.findIn K (.ref c_World) "__eq__" = some (some (.ref f1)))
    (t1 : PySem.W.isFn K (.ref f1) = true)
    (l1 : K.lookup f1 = some ⟨oc1, od1, .func (PySem.W.fnOf "__eq__" "World.__eq__" (defArgs s_World___eq__) (defBody s_World___eq__) (defScope s_World___eq__) .none kV1 dc1 pm1 an1 cd1 ct1), sl1⟩)
    (c1 : PySem.W.codeIn K cd1 "World.__eq__" = true)
    (k1 : PySem.W.keepIn K (.ref f1) = true)
    {f2 : Addr} {oc2 : Value} {od2 an2 : Option Addr} {sl2 : Array (Option Value)} {kV2 dc2 pm2 cd2 ct2 : Value}
    (a2 : PySem.W.findIn K (.ref c_World) "__ge__" = some (some (.ref f2)))
    (t2 : PySem.W.isFn K (.ref f2) = true)
    (l2 : K.lookup f2 = some ⟨oc2, od2, .func (PySem.W.fnOf "__ge__" "World.__ge__" (defArgs s_World___ge__) (defBody s_World___ge__) (defScope s_World___ge__) .none kV2 dc2 pm2 an2 cd2 ct2), sl2⟩)
    (c2 : PySem.W.codeIn K cd2 "World.__ge__" = true)
    (k2 : PySem.W.keepIn K (.ref f2) = true)
    {f3 : Addr} {oc3 : Value} {od3 an3 : Option Addr} {sl3 : Array (Option Value)} {kV3 dc3 pm3 cd3 ct3 : Value}
    (a3 : PySem.W.findIn K (.ref c_World) "__le__" = some (some (.ref f3)))
    (t3 : PySem.W.isFn K (.ref f3) = true)
    (l3 : K.lookup f3 = some ⟨oc3, od3, .func (PySem.W.fnOf "__le__" "World.__le__" (defArgs s_World___le__) (defBody s_World___le__) (defScope s_World___le__) .none kV3 dc3 pm3 an3 cd3 ct3), sl3⟩)
    (c3 : PySem.W.codeIn K cd3 "World.__le__" = true)
    (k3 : PySem.W.keepIn K (.ref f3) = true)
    {f4 : Addr} {oc4 : Value} {od4 an4 : Option Addr} {sl4 : Array (Option Value)} {kV4 dc4 pm4 cd4 ct4 : Value}
    (a4 : PySem.W.findIn K (.ref c_World) "__gt__" = some (some (.ref f4)))
    (t4 : PySem.W.isFn K (.ref f4) = true)
    (l4 : K.lookup f4 = some ⟨oc4, od4, .func (PySem.W.fnOf "__gt__" "World.__gt__" (defArgs s_World___gt__) (defBody s_World___gt__) (defScope s_World___gt__) .none kV4 dc4 pm4 an4 cd4 ct4), sl4⟩)
    (c4 : PySem.W.codeIn K cd4 "World.__gt__" = true)
    (k4 : PySem.W.keepIn K (.ref f4) = true)
    {f5 : Addr} {oc5 : Value} {od5 an5 : Option Addr} {sl5 : Array (Option Value)} {kV5 dc5 pm5 cd5 ct5 : Value}
    (a5 : PySem.W.findIn K (.ref c_World) "__lt__" = some (some (.ref f5)))
    (t5 : PySem.W.isFn K (.ref f5) = true)
    (l5 : K.lookup f5 = some ⟨oc5, od5, .func (PySem.W.fnOf "__lt__" "World.__lt__" (defArgs s_World___lt__) (defBody s_World___lt__) (defScope s_World___lt__) .none kV5 dc5 pm5 an5 cd5 ct5), sl5⟩)
    (c5 : PySem.W.codeIn K cd5 "World.__lt__" = true)
    (k5 : PySem.W.keepIn K (.ref f5) = true)
    {f6 : Addr} {oc6 : Value} {od6 an6 : Option Addr} {sl6 : Array (Option Value)} {kV6 dc6 pm6 cd6 ct6 : Value}
    {p6 : Addr} {rr6 : List Value}
    (a6 : PySem.W.findIn K (.ref c_World) "text" = some (some (.ref p6)))
    (pg6 : PySem.W.specialIn K (.ref p6) "__get__" = some (some (.builtin "property.__get__")))
    (pt6 : PySem.W.takesIn K (.ref p6) = some true)
    (pr6 : PySem.W.recIn K p6 "property" = some (.ref f6 :: rr6))
    (l6 : K.lookup f6 = some ⟨oc6, od6, .func (PySem.W.fnOf "text" "World.text" (defArgs s_World_text) (defBody s_World_text) (defScope s_World_text) .none kV6 dc6 pm6 an6 cd6 ct6), sl6⟩)
    (c6 : PySem.W.codeIn K cd6 "World.text" = true)
    (k6 : PySem.W.keepIn K (.ref f6) = true)
    {f7 : Addr} {oc7 : Value} {od7 an7 : Option Addr} {sl7 : Array (Option Value)} {kV7 dc7 pm7 cd7 ct7 : Value}
    (a7 : PySem.W.findIn K (.ref c_World) "__iter__" = some (some (.ref f7)))
    (t7 : PySem.W.isFn K (.ref f7) = true)
    (l7 : K.lookup f7 = some ⟨oc7, od7, .func (PySem.W.fnOf "__iter__" "World.__iter__" (defArgs s_World___iter__) (defBody s_World___iter__) (defScope s_World___iter__) .none kV7 dc7 pm7 an7 cd7 ct7), sl7⟩)
    (c7 : PySem.W.codeIn K cd7 "World.__iter__" = true)
    (k7 : PySem.W.keepIn K (.ref f7) = true)
    {f8 : Addr} {oc8 : Value} {od8 an8 : Option Addr} {sl8 : Array (Option Value)} {kV8 dc8 pm8 cd8 ct8 : Value}
    (a8 : PySem.W.findIn K (.ref c_World) "__len__" = some (some (.ref f8)))
    (t8 : PySem.W.isFn K (.ref f8) = true)
    (l8 : K.lookup f8 = some ⟨oc8, od8, .func (PySem.W.fnOf "__len__" "World.__len__" (defArgs s_World___len__) (defBody s_World___len__) (defScope s_World___len__) .none kV8 dc8 pm8 an8 cd8 ct8), sl8⟩)
    (c8 : PySem.W.codeIn K cd8 "World.__len__" = true)
    (k8 : PySem.W.keepIn K (.ref f8) = true)
    {f9 : Addr} {oc9 : Value} {od9 an9 : Option Addr} {sl9 : Array (Option Value)} {kV9 dc9 pm9 cd9 ct9 : Value}
    (a9 : PySem.W.nsIn K mainGlobals "_law_pool" = some (some (.ref f9)))
    (l9 : K.lookup f9 = some ⟨oc9, od9, .func (PySem.W.fnOf "_law_pool" "_law_pool" (defArgs s__law_pool) (defBody s__law_pool) (defScope s__law_pool) .none kV9 dc9 pm9 an9 cd9 ct9), sl9⟩)
    (c9 : PySem.W.codeIn K cd9 "_law_pool" = true)
    (k9 : PySem.W.keepIn K (.ref f9) = true)
    {f10 : Addr} {oc10 : Value} {od10 an10 : Option Addr} {sl10 : Array (Option Value)} {kV10 dc10 pm10 cd10 ct10 : Value}
    (a10 : PySem.W.nsIn K mainGlobals "_law_mixed" = some (some (.ref f10)))
    (l10 : K.lookup f10 = some ⟨oc10, od10, .func (PySem.W.fnOf "_law_mixed" "_law_mixed" (defArgs s__law_mixed) (defBody s__law_mixed) (defScope s__law_mixed) .none kV10 dc10 pm10 an10 cd10 ct10), sl10⟩)
    (c10 : PySem.W.codeIn K cd10 "_law_mixed" = true)
    (k10 : PySem.W.keepIn K (.ref f10) = true)
    {f11 : Addr} {oc11 : Value} {od11 an11 : Option Addr} {sl11 : Array (Option Value)} {kV11 dc11 pm11 cd11 ct11 : Value}
    (a11 : PySem.W.nsIn K mainGlobals "_law_less" = some (some (.ref f11)))
    (l11 : K.lookup f11 = some ⟨oc11, od11, .func (PySem.W.fnOf "_law_less" "_law_less" (defArgs s__law_less) (defBody s__law_less) (defScope s__law_less) .none kV11 dc11 pm11 an11 cd11 ct11), sl11⟩)
    (c11 : PySem.W.codeIn K cd11 "_law_less" = true)
    (k11 : PySem.W.keepIn K (.ref f11) = true)
    {f12 : Addr} {oc12 : Value} {od12 an12 : Option Addr} {sl12 : Array (Option Value)} {kV12 dc12 pm12 cd12 ct12 : Value}
    (a12 : PySem.W.nsIn K mainGlobals "_law_draw" = some (some (.ref f12)))
    (l12 : K.lookup f12 = some ⟨oc12, od12, .func (PySem.W.fnOf "_law_draw" "_law_draw" (defArgs s__law_draw) (defBody s__law_draw) (defScope s__law_draw) .none kV12 dc12 pm12 an12 cd12 ct12), sl12⟩)
    (c12 : PySem.W.codeIn K cd12 "_law_draw" = true)
    (k12 : PySem.W.keepIn K (.ref f12) = true)
    {f13 : Addr} {oc13 : Value} {od13 an13 : Option Addr} {sl13 : Array (Option Value)} {kV13 dc13 pm13 cd13 ct13 : Value}
    (a13 : PySem.W.findIn K (.ref c_World) "__add__" = some (some (.ref f13)))
    (t13 : PySem.W.isFn K (.ref f13) = true)
    (l13 : K.lookup f13 = some ⟨oc13, od13, .func (PySem.W.fnOf "__add__" "World.__add__" (defArgs s_World___add__) (defBody s_World___add__) (defScope s_World___add__) .none kV13 dc13 pm13 an13 cd13 ct13), sl13⟩)
    (c13 : PySem.W.codeIn K cd13 "World.__add__" = true)
    (k13 : PySem.W.keepIn K (.ref f13) = true)
    {f14 : Addr} {oc14 : Value} {od14 an14 : Option Addr} {sl14 : Array (Option Value)} {kV14 dc14 pm14 cd14 ct14 : Value}
    {p14 : Addr} {rr14 : List Value}
    (a14 : PySem.W.findCls K (.ref c_World) (.type "type") "read" = some (.get (.builtin "classmethod.__get__") (.ref p14) .none (.ref c_World)))
    (pr14 : PySem.W.recIn K p14 "classmethod" = some (.ref f14 :: rr14))
    (l14 : K.lookup f14 = some ⟨oc14, od14, .func (PySem.W.fnOf "read" "World.read" (defArgs s_World_read) (defBody s_World_read) (defScope s_World_read) .none kV14 dc14 pm14 an14 cd14 ct14), sl14⟩)
    (c14 : PySem.W.codeIn K cd14 "World.read" = true)
    (k14 : PySem.W.keepIn K (.ref f14) = true)
    {f15 : Addr} {oc15 : Value} {od15 an15 : Option Addr} {sl15 : Array (Option Value)} {kV15 dc15 pm15 cd15 ct15 : Value}
    (a15 : PySem.W.nsIn K mainGlobals "_law_next" = some (some (.ref f15)))
    (l15 : K.lookup f15 = some ⟨oc15, od15, .func (PySem.W.fnOf "_law_next" "_law_next" (defArgs s__law_next) (defBody s__law_next) (defScope s__law_next) .none kV15 dc15 pm15 an15 cd15 ct15), sl15⟩)
    (c15 : PySem.W.codeIn K cd15 "_law_next" = true)
    (k15 : PySem.W.keepIn K (.ref f15) = true)
    {f16 : Addr} {oc16 : Value} {od16 an16 : Option Addr} {sl16 : Array (Option Value)} {kV16 dc16 pm16 cd16 ct16 : Value}
    (a16 : PySem.W.nsIn K mainGlobals "_law_same" = some (some (.ref f16)))
    (l16 : K.lookup f16 = some ⟨oc16, od16, .func (PySem.W.fnOf "_law_same" "_law_same" (defArgs s__law_same) (defBody s__law_same) (defScope s__law_same) .none kV16 dc16 pm16 an16 cd16 ct16), sl16⟩)
    (c16 : PySem.W.codeIn K cd16 "_law_same" = true)
    (k16 : PySem.W.keepIn K (.ref f16) = true)
    {f17 : Addr} {oc17 : Value} {od17 an17 : Option Addr} {sl17 : Array (Option Value)} {kV17 dc17 pm17 cd17 ct17 : Value}
    (a17 : PySem.W.nsIn K mainGlobals "_law_compared" = some (some (.ref f17)))
    (l17 : K.lookup f17 = some ⟨oc17, od17, .func (PySem.W.fnOf "_law_compared" "_law_compared" (defArgs s__law_compared) (defBody s__law_compared) (defScope s__law_compared) .none kV17 dc17 pm17 an17 cd17 ct17), sl17⟩)
    (c17 : PySem.W.codeIn K cd17 "_law_compared" = true)
    (k17 : PySem.W.keepIn K (.ref f17) = true)
    {f18 : Addr} {oc18 : Value} {od18 an18 : Option Addr} {sl18 : Array (Option Value)} {kV18 dc18 pm18 cd18 ct18 : Value}
    (a18 : PySem.W.nsIn K mainGlobals "_law_holds" = some (some (.ref f18)))
    (l18 : K.lookup f18 = some ⟨oc18, od18, .func (PySem.W.fnOf "_law_holds" "_law_holds" (defArgs s__law_holds) (defBody s__law_holds) (defScope s__law_holds) .none kV18 dc18 pm18 an18 cd18 ct18), sl18⟩)
    (c18 : PySem.W.codeIn K cd18 "_law_holds" = true)
    (k18 : PySem.W.keepIn K (.ref f18) = true)
    {f19 : Addr} {oc19 : Value} {od19 an19 : Option Addr} {sl19 : Array (Option Value)} {kV19 dc19 pm19 cd19 ct19 : Value}
    (a19 : PySem.W.nsIn K mainGlobals "law" = some (some (.ref f19)))
    (l19 : K.lookup f19 = some ⟨oc19, od19, .func (PySem.W.fnOf "law" "law" (defArgs s_law) (defBody s_law) (defScope s_law) .none kV19 dc19 pm19 an19 cd19 ct19), sl19⟩)
    (c19 : PySem.W.codeIn K cd19 "law" = true)
    (k19 : PySem.W.keepIn K (.ref f19) = true)
    : ∃ fd : FuncData, (∀ (s : Shared) (u : Value), BindsTo s fd ⟨[u], []⟩ [("_law_script", u)]) ∧ ∀ base : Heap, K.In base → base.Ns mainGlobals mg → FnOk P w K mg base CX0 9 fa fd ["_law_script"] (spLaw K) := by
  have T : Txt P K mg (⟨c_BadWorld, c_World, i_BadWorld⟩ : Ad) := ⟨PySem.W.mg_none_of X G n_bool, PySem.W.mg_none_of X G n_enumerate, PySem.W.mg_none_of X G n_int, PySem.W.mg_none_of X G n_isinstance, PySem.W.mg_none_of X G n_iter, PySem.W.mg_none_of X G n_len, PySem.W.mg_none_of X G n_list, PySem.W.mg_none_of X G n_range, PySem.W.mg_none_of X G n_str, PySem.W.mg_none_of X G n_tuple, ⟨_, PySem.W.mg_of X G z_DIGITS, r_DIGITS⟩, PySem.W.mg_of X G a_BadWorld, PySem.W.mg_of X G a_World, { gC := PySem.W.mg_of X G a_BadWorld, cls := ⟨_, _, _, _, _, _, _, _, _, _, _, _, _, _, _, x_BadWorld, ve_BadWorld⟩, alo := al_BadWorld, sa := sa_BadWorld, noN := no_BadWorld, iC := in_BadWorld, tC := ti_BadWorld, kC := kc_BadWorld, exC := ex_BadWorld, veC := vc_BadWorld, slf := sl_BadWorld, tyC := ty_BadWorld, opq := opq, sup := PySem.W.mg_none_of X G sup, top := top, fun_ := ⟨_, _, _, _, _, _, _, _, _, _, _, _, _, _, _, _, _, _, _, _, _, _, _, _, _, _, _, _, _, _, _, _, _, _, _, _, li_BadWorld, ci_BadWorld, rfl, rfl, rfl, fun _ _ => rfl, ⟨_, fun _ => rfl⟩, fun _ => rfl, fun _ => rfl, cd_BadWorld, fv_BadWorld, fl_BadWorld, ce_BadWorld⟩ }, ⟨pg_World, hd_World, po_World, sa_World⟩, ⟨ne_World, nm_World⟩, sf_World, ⟨mk_World, kc_World, PySem.W.mg_of X G a_World⟩, ⟨rd_World, rg_World⟩, nf_World_answers⟩
  have TX : Caught K (⟨c_BadWorld, c_World, i_BadWorld⟩ : Ad) := ⟨⟨⟨pg_World, hd_World, po_World, sa_World⟩, oc_World, sp, tk, om_World⟩, io_World⟩
  have h_World___init__ : MHas K c_World "__init__" "World.__init__" s_World___init__ ["self", "answers"] := mhas_mk a0 t0 l0 c0 k0 fun _ _ _ _ _ _ us hl => match us, hl with | [_, _], _ => rfl
  have h_World___eq__ : MHas K c_World "__eq__" "World.__eq__" s_World___eq__ ["self", "other"] := mhas_mk a1 t1 l1 c1 k1 fun _ _ _ _ _ _ us hl => match us, hl with | [_, _], _ => rfl
  have h_World___ge__ : MHas K c_World "__ge__" "World.__ge__" s_World___ge__ ["self", "other"] := mhas_mk a2 t2 l2 c2 k2 fun _ _ _ _ _ _ us hl => match us, hl with | [_, _], _ => rfl
  have h_World___le__ : MHas K c_World "__le__" "World.__le__" s_World___le__ ["self", "other"] := mhas_mk a3 t3 l3 c3 k3 fun _ _ _ _ _ _ us hl => match us, hl with | [_, _], _ => rfl
  have h_World___gt__ : MHas K c_World "__gt__" "World.__gt__" s_World___gt__ ["self", "other"] := mhas_mk a4 t4 l4 c4 k4 fun _ _ _ _ _ _ us hl => match us, hl with | [_, _], _ => rfl
  have h_World___lt__ : MHas K c_World "__lt__" "World.__lt__" s_World___lt__ ["self", "other"] := mhas_mk a5 t5 l5 c5 k5 fun _ _ _ _ _ _ us hl => match us, hl with | [_, _], _ => rfl
  have h_World_text : PHas K c_World "text" "World.text" s_World_text ["self"] := phas_mk ⟨a6, pg6, pt6, _, pr6⟩ l6 c6 k6 fun _ _ _ _ _ _ us hl => match us, hl with | [_], _ => rfl
  have h_World___iter__ : MHas K c_World "__iter__" "World.__iter__" s_World___iter__ ["self"] := mhas_mk a7 t7 l7 c7 k7 fun _ _ _ _ _ _ us hl => match us, hl with | [_], _ => rfl
  have h_World___len__ : MHas K c_World "__len__" "World.__len__" s_World___len__ ["self"] := mhas_mk a8 t8 l8 c8 k8 fun _ _ _ _ _ _ us hl => match us, hl with | [_], _ => rfl
  have h__law_pool : Has K mg "_law_pool" s__law_pool ["_law_script"] := has_mk X G a9 l9 c9 k9 fun _ _ _ _ _ _ us hl => match us, hl with | [_], _ => rfl
  have h__law_mixed : Has K mg "_law_mixed" s__law_mixed ["_law_cell", "_law_turn", "_law_limit"] := has_mk X G a10 l10 c10 k10 fun _ _ _ _ _ _ us hl => match us, hl with | [_, _, _], _ => rfl
  have h__law_less : Has K mg "_law_less" s__law_less ["_law_first", "_law_second"] := has_mk X G a11 l11 c11 k11 fun _ _ _ _ _ _ us hl => match us, hl with | [_, _], _ => rfl
  have h__law_draw : Has K mg "_law_draw" s__law_draw ["_law_pool_here", "_law_limit"] := has_mk X G a12 l12 c12 k12 fun _ _ _ _ _ _ us hl => match us, hl with | [_, _], _ => rfl
  have h_World___add__ : MHas K c_World "__add__" "World.__add__" s_World___add__ ["self", "other"] := mhas_mk a13 t13 l13 c13 k13 fun _ _ _ _ _ _ us hl => match us, hl with | [_, _], _ => rfl
  have h_World_read : KHas K c_World "read" "World.read" s_World_read ["cls", "text"] := khas_mk a14 pr14 l14 c14 k14 fun _ _ _ _ _ _ us hl => match us, hl with | [_, _], _ => rfl
  have h__law_next : Has K mg "_law_next" s__law_next ["_law_pool_here", "_law_row"] := has_mk X G a15 l15 c15 k15 fun _ _ _ _ _ _ us hl => match us, hl with | [_, _], _ => rfl
  have h__law_same : Has K mg "_law_same" s__law_same ["_law_actual", "_law_expected"] := has_mk X G a16 l16 c16 k16 fun _ _ _ _ _ _ us hl => match us, hl with | [_, _], _ => rfl
  have h__law_compared : Has K mg "_law_compared" s__law_compared ["_law_one", "_law_two", "_law_first", "_law_second"] := has_mk X G a17 l17 c17 k17 fun _ _ _ _ _ _ us hl => match us, hl with | [_, _, _, _], _ => rfl
  have h__law_holds : Has K mg "_law_holds" s__law_holds ["_law_world", "_law_row"] := has_mk X G a18 l18 c18 k18 fun _ _ _ _ _ _ us hl => match us, hl with | [_, _], _ => rfl
  have h_law : Has K mg "law" s_law ["_law_script"] := has_mk X G a19 l19 c19 k19 fun _ _ _ _ _ _ us hl => match us, hl with | [_], _ => rfl
  exact all_law hfa T TX h_World___init__ h_World___eq__ h_World___ge__ h_World___le__ h_World___gt__ h_World___lt__ h_World_text h_World___iter__ h_World___len__ h__law_pool h__law_mixed h__law_less h__law_draw h_World___add__ h_World_read h__law_next h__law_same h__law_compared h__law_holds h_law
end Ov
open PySem PySem.W PyProof.Rows
set_option maxRecDepth 100000 in
set_option maxHeartbeats 0 in
theorem PySem.Challenge.cw_exitdeeds_k14_world_order_holds : PySem.Challenge.rw_exitdeeds_k14_world_order.Holds := by
  w_on; o_law; k_head; (case hw => w_witness2)
  k_fill
  refine L2.walk_ofK (l := PySem.Challenge.rw_exitdeeds_k14_world_order) (n := 63) (k := 9) (x := "_law_script") (CX := L2.CX0) (sp := Ov.spLaw) rfl (by decide) rfl ⟨rfl, by decide, by decide⟩ (fun w h Y => PySem.W.kIn_of Y) ?F Ov.law_start fun _ _ _ _ z => z
  case F =>
    intro w mg fa h KX G hmg
    refine' Ov.all_mk KX G hmg ?n_bool ?n_enumerate ?n_int ?n_isinstance ?n_iter ?n_len ?n_list ?n_range ?n_str ?n_tuple ?z_DIGITS ?r_DIGITS ?a_BadWorld ?a_World ?pg_World ?hd_World ?po_World ?sa_World ?mk_World ?kc_World ?ne_World ?nm_World ?sf_World ?rd_World ?rg_World ?nf_World_answers ?opq ?sup ?top ?x_BadWorld ?ve_BadWorld ?al_BadWorld ?sa_BadWorld ?no_BadWorld ?in_BadWorld ?ti_BadWorld ?kc_BadWorld ?ex_BadWorld ?vc_BadWorld ?sl_BadWorld ?ty_BadWorld ?li_BadWorld ?ci_BadWorld ?cd_BadWorld ?fv_BadWorld ?fl_BadWorld ?ce_BadWorld ?sp ?tk ?oc_World ?om_World ?io_World ?a0 ?t0 ?l0 ?c0 ?k0 ?a1 ?t1 ?l1 ?c1 ?k1 ?a2 ?t2 ?l2 ?c2 ?k2 ?a3 ?t3 ?l3 ?c3 ?k3 ?a4 ?t4 ?l4 ?c4 ?k4 ?a5 ?t5 ?l5 ?c5 ?k5 ?a6 ?pg6 ?pt6 ?pr6 ?l6 ?c6 ?k6 ?a7 ?t7 ?l7 ?c7 ?k7 ?a8 ?t8 ?l8 ?c8 ?k8 ?a9 ?l9 ?c9 ?k9 ?a10 ?l10 ?c10 ?k10 ?a11 ?l11 ?c11 ?k11 ?a12 ?l12 ?c12 ?k12 ?a13 ?t13 ?l13 ?c13 ?k13 ?a14 ?pr14 ?l14 ?c14 ?k14 ?a15 ?l15 ?c15 ?k15 ?a16 ?l16 ?c16 ?k16 ?a17 ?l17 ?c17 ?k17 ?a18 ?l18 ?c18 ?k18 ?a19 ?l19 ?c19 ?k19
    (case n_bool => k_is)
    (case n_enumerate => k_is)
    (case n_int => k_is)
    (case n_isinstance => k_is)
    (case n_iter => k_is)
    (case n_len => k_is)
    (case n_list => k_is)
    (case n_range => k_is)
    (case n_str => k_is)
    (case n_tuple => k_is)
    (case z_DIGITS => k_is)
    (case r_DIGITS => exact ⟨_, rfl⟩)
    (case a_BadWorld => k_is)
    (case a_World => k_is)
    (case pg_World => k_is)
    (case hd_World => k_is)
    (case po_World => k_is)
    (case sa_World => k_is)
    (case mk_World => k_is)
    (case kc_World => k_is)
    (case ne_World => k_is)
    (case nm_World => k_is)
    (case sf_World => k_is)
    (case rd_World => k_is)
    (case rg_World => k_is)
    (case nf_World_answers => k_is)
    (case opq => k_is)
    (case sup => k_is)
    (case top => decide +kernel)
    (case x_BadWorld => k_is)
    (case ve_BadWorld => decide +kernel)
    (case al_BadWorld => ks_is)
    (case sa_BadWorld => k_is)
    (case no_BadWorld => k_is)
    (case in_BadWorld => k_is)
    (case ti_BadWorld => k_is)
    (case kc_BadWorld => k_is)
    (case ex_BadWorld => k_is)
    (case vc_BadWorld => k_is)
    (case sl_BadWorld => k_is)
    (case ty_BadWorld => k_is)
    (case li_BadWorld => k_is)
    (case ci_BadWorld => k_is)
    (case cd_BadWorld => k_is)
    (case fv_BadWorld => rfl)
    (case fl_BadWorld => first | rfl | decide +kernel)
    (case ce_BadWorld => k_is)
    (case sp => k_is)
    (case tk => k_is)
    (case oc_World => k_is)
    (case om_World => k_is)
    (case io_World => kit_is)
    (case a0 => k_is)
    (case t0 => k_is)
    (case l0 => k_is)
    (case c0 => k_is)
    (case k0 => k_is)
    (case a1 => k_is)
    (case t1 => k_is)
    (case l1 => k_is)
    (case c1 => k_is)
    (case k1 => k_is)
    (case a2 => k_is)
    (case t2 => k_is)
    (case l2 => k_is)
    (case c2 => k_is)
    (case k2 => k_is)
    (case a3 => k_is)
    (case t3 => k_is)
    (case l3 => k_is)
    (case c3 => k_is)
    (case k3 => k_is)
    (case a4 => k_is)
    (case t4 => k_is)
    (case l4 => k_is)
    (case c4 => k_is)
    (case k4 => k_is)
    (case a5 => k_is)
    (case t5 => k_is)
    (case l5 => k_is)
    (case c5 => k_is)
    (case k5 => k_is)
    (case a6 => k_is)
    (case pg6 => k_is)
    (case pt6 => k_is)
    (case pr6 => k_is)
    (case l6 => k_is)
    (case c6 => k_is)
    (case k6 => k_is)
    (case a7 => k_is)
    (case t7 => k_is)
    (case l7 => k_is)
    (case c7 => k_is)
    (case k7 => k_is)
    (case a8 => k_is)
    (case t8 => k_is)
    (case l8 => k_is)
    (case c8 => k_is)
    (case k8 => k_is)
    (case a9 => k_is)
    (case l9 => k_is)
    (case c9 => k_is)
    (case k9 => k_is)
    (case a10 => k_is)
    (case l10 => k_is)
    (case c10 => k_is)
    (case k10 => k_is)
    (case a11 => k_is)
    (case l11 => k_is)
    (case c11 => k_is)
    (case k11 => k_is)
    (case a12 => k_is)
    (case l12 => k_is)
    (case c12 => k_is)
    (case k12 => k_is)
    (case a13 => k_is)
    (case t13 => k_is)
    (case l13 => k_is)
    (case c13 => k_is)
    (case k13 => k_is)
    (case a14 => k_is)
    (case pr14 => k_is)
    (case l14 => k_is)
    (case c14 => k_is)
    (case k14 => k_is)
    (case a15 => k_is)
    (case l15 => k_is)
    (case c15 => k_is)
    (case k15 => k_is)
    (case a16 => k_is)
    (case l16 => k_is)
    (case c16 => k_is)
    (case k16 => k_is)
    (case a17 => k_is)
    (case l17 => k_is)
    (case c17 => k_is)
    (case k17 => k_is)
    (case a18 => k_is)
    (case l18 => k_is)
    (case c18 => k_is)
    (case k18 => k_is)
    (case a19 => k_is)
    (case l19 => k_is)
    (case c19 => k_is)
    (case k19 => k_is)
#print axioms PySem.Challenge.cw_exitdeeds_k14_world_order_holds

