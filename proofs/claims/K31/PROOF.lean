import PyProof.Rows.All
import Wide.All
import OpenK.AllK
import Wide.FinOn
import HandS.ForMost
import HandS.Exc
import HandS.TryOnly
import HandS.WordsExc
import HandS.WordsList
import HandS.Wide
import HandS.IsInst
import HandS.SetIn
import HandS.Deep
import HandS.ExcField
import HandS.ExcIs
import KE.KExcIs
import KE.KExcSuper
import PyProof.DictUpdate
import PyProof.DictDisplay
import HandS.Property
import HandS.ClsMeth
import HandS.OwnEq
import HandS.More
import HandS.TupAny
import HandS.Small
import HandS.HotCalls
import HandS.IterVal
import KE.KOwnIter
import KE.GoesMore
import KE.GoesEnum
import HandS.Walk
import HandS.Codes
import HandS.TupLe
import PyProof.FactsAll.object_2
import KE.SortKeyHeap
import KE.KDictPairs
import HandS.SortKw
import HandS.RaiseMore
import HandS.TryMany
import HandS.Style
import PySem.Challenge.RW_exitdeeds_k31_live_words
set_option Elab.async false
set_option linter.all false
set_option maxRecDepth 100000
namespace Ov
open PySem PySem.Spec PyProof.Rows L2

/-! ### a def that may be called -/
/-- the def called x keeps sp -/
def Cal (P : Program) (w : World) (K : PySem.W.Frag) (mg : Str → Option Value) (base : Heap) (CX : CXT) (k : Nat) (x : Str) (ps : List Str) (sp : Sp) : Prop :=
  ∃ (f : Addr) (fd : FuncData), FnOk P w K mg base CX k f fd ps sp ∧ mg x = some (.ref f) ∧ PySem.W.keepIn K (.ref f) = true ∧ Binds K fd ps []
/-- the def called x stands in the text -/
def Has (K : PySem.W.Frag) (mg : Str → Option Value) (x : Str) (st : Stmt) (ps : List Str) : Prop :=
  ∃ (f : Addr) (fd : FuncData), Fun K x x st f fd ∧ mg x = some (.ref f) ∧ ∀ us : List Value, us.length = ps.length → bindArgs fd ⟨us, []⟩ = pure (ps.zip us)
section
variable {P : Program} {w : World} {K : PySem.W.Frag} {mg : Str → Option Value} {base : Heap} {CX : CXT}
theorem Cal.mono {j k : Nat} {x : Str} {ps : List Str} {sp : Sp} (c : Cal P w K mg base CX j x ps sp) (h : j ≤ k) : Cal P w K mg base CX k x ps sp := by
  obtain ⟨f, fd, F, m, kp, b⟩ := c
  exact ⟨f, fd, F.mono h, m, kp, b⟩
theorem Cal.imp {k : Nat} {x : Str} {ps : List Str} {sp sp' : Sp} (c : Cal P w K mg base CX k x ps sp) (h : ∀ vs H Q E, sp' vs H Q E → sp vs H Q E) : Cal P w K mg base CX k x ps sp' := by
  obtain ⟨f, fd, F, m, kp, b⟩ := c
  exact ⟨f, fd, F.imp h, m, kp, b⟩
theorem Has.ok {x : Str} {st : Stmt} {N ps : List Str} {k : Nat} {sp : Sp} (h : Has K mg x st ps) (S : FnScope N ps (defScope st)) (len : ∀ vs H Q E, sp vs H Q E → vs.length = ps.length)
    (hbody : ∀ (f : Addr) (cdv : Value) (A : Around) (outer : List Env) (s : Shared) (H : Hp) (vs : List V) (Q : VK) (E : XK), Room k (A.deeper (envOfC x (defScope st) s.heap.objs.size f cdv)) → sp vs H Q E →
      ∃ t, PSs (cxOf CX0 P w K mg base N x (defScope st) f cdv A outer s H E).nox (defBody st) t ∧ t { nx := fun _ H' => Q .non H', rt := Q } (start N vs) H) : Cal P w K mg base CX0 (k + 1) x ps sp := by
  obtain ⟨f, fd, F, m, b⟩ := h
  exact ⟨f, fd, F.ok S len (fun cdv A outer s H vs Q E hr h => hbody f cdv A outer s H vs Q E hr h), m, F.kp, .all b⟩
theorem Has.okX {x : Str} {st : Stmt} {N ps : List Str} {k : Nat} {sp : Sp} (h : Has K mg x st ps) (S : FnScope N ps (defScope st)) (len : ∀ vs H Q E, sp vs H Q E → vs.length = ps.length)
    (hbody : ∀ (f : Addr) (cdv : Value) (A : Around) (outer : List Env) (s : Shared) (H : Hp) (vs : List V) (Q : VK) (E : XK), Room k (A.deeper (envOfC x (defScope st) s.heap.objs.size f cdv)) → sp vs H Q E →
      ∃ t, PSs (cxOf (L2.CX P w) P w K mg base N x (defScope st) f cdv A outer s H E) (defBody st) t ∧ t { nx := fun _ H' => Q .non H', rt := Q } (start N vs) H) : Cal P w K mg base (L2.CX P w) (k + 1) x ps sp := by
  obtain ⟨f, fd, F, m, b⟩ := h
  exact ⟨f, fd, F.okX S len (fun cdv A outer s H vs Q E hr h => hbody f cdv A outer s H vs Q E hr h), m, F.kp, .all b⟩
end
/-- a promise that asks for what cannot be -/
theorem Has.void {P : Program} {w : World} {K : PySem.W.Frag} {mg : Str → Option Value} {base : Heap} {CX : CXT} {k : Nat} {x : Str} {st : Stmt} {ps : List Str} {sp : Sp} (h : Has K mg x st ps) (no : ∀ vs H Q E, ¬ sp vs H Q E) : Cal P w K mg base CX k x ps sp := by
  obtain ⟨f, fd, F, m, b⟩ := h
  exact ⟨f, fd, ⟨fun vs H Q E h => (no _ _ _ _ h).elim, fun A outer s H args us vs Q E hr he hb hv hs => (no _ _ _ _ hs).elim⟩, m, F.kp, .all b⟩
theorem has_mk {K : PySem.W.Frag} {h : Heap} {mg : Str → Option Value} (X : K.In h) (G : h.Ns mainGlobals mg) {x : Str} {st : Stmt} {ps : List Str} {f : Addr} {oc : Value} {od an : Option Addr} {osl : Array (Option Value)} {kV doc pm cdv ct : Value}
    (a : PySem.W.nsIn K mainGlobals x = some (some (.ref f))) (l : K.lookup f = some ⟨oc, od, .func (PySem.W.fnOf x x (defArgs st) (defBody st) (defScope st) .none kV doc pm an cdv ct), osl⟩)
    (c : PySem.W.codeIn K cdv x = true) (k : PySem.W.keepIn K (.ref f) = true)
    (hb : ∀ (kV doc pm : Value) (an : Option Addr) (cdv ct : Value) (us : List Value), us.length = ps.length → bindArgs (PySem.W.fnOf x x (defArgs st) (defBody st) (defScope st) .none kV doc pm an cdv ct) ⟨us, []⟩ = pure (ps.zip us)) : Has K mg x st ps :=
  ⟨f, _, fun_mk l c k, PySem.W.mg_of X G a, hb kV doc pm an cdv ct⟩
/-- the law itself -/
theorem law_end {P : Program} {w : World} {K : PySem.W.Frag} {mg : Str → Option Value} {k : Nat} {st : Stmt} {x y : Str} {sp : Sp} {CX : CXT} {fa : Addr} (h : Has K mg x st [y]) (hfa : mg x = some (.ref fa))
    (F : ∀ base : Heap, K.In base → base.Ns mainGlobals mg → ∀ (f : Addr) (fd : FuncData), Fun K x x st f fd → FnOk P w K mg base CX k f fd [y] sp) :
    ∃ fd : FuncData, (∀ (s : Shared) (u : Value), BindsTo s fd ⟨[u], []⟩ [(y, u)]) ∧ ∀ base : Heap, K.In base → base.Ns mainGlobals mg → FnOk P w K mg base CX k fa fd [y] sp := by
  obtain ⟨f, fd, Fu, m, b⟩ := h
  have e : fa = f := Value.ref.inj (Option.some.inj (hfa.symm.trans m))
  subst e
  exact ⟨fd, fun s u => .of_eq (b [u] rfl), fun base hi hn => F base hi hn _ fd Fu⟩
section
variable {X : Cx} {k : Nat} {x : Str} {ps : List Str} {sp : Sp} {p pos : Pos} {e : Expr} {es : List Expr} {t : TA}
theorem pe_fn (c : Cal X.prog X.w X.K X.mg X.base CX0 k x ps sp) (hr : Room k X.A) (hg : Gl X x) (ha : PA X (e :: es) t) (hdb : (x == ("__debug__" : Str)) = false := by decide)
    (he : starEach (e :: es) X.env = (false, eval e X.env) :: starEach es X.env := by rfl) (hpl : (backTo pos (starEach es X.env)).any (·.1) = false := by rfl) : PE X (.Call (.Name x p) (e :: es) [] pos) (tCall sp [] E0 t) := by
  obtain ⟨f, fd, F, m, kp, b⟩ := c
  exact pe_call F hr hg m kp b .nil pass0 ha hdb he hpl
theorem pe_fn0 (c : Cal X.prog X.w X.K X.mg X.base CX0 k x ps sp) (hr : Room k X.A) (hg : Gl X x) (hdb : (x == ("__debug__" : Str)) = false := by decide) : PE X (.Call (.Name x p) [] [] pos) (tCall sp [] E0 tNil) := by
  obtain ⟨f, fd, F, m, kp, b⟩ := c
  exact pe_call0 F hr hg m kp b .nil pass0 hdb
end

/-! ### operators by what they meet -/
theorem OpR.or {X : Cx} {f : Value → Value → Sem Value} {r r' : R2} (a : OpR X f r) (b : OpR X f r') : OpR X f (fun x y H Q => r x y H Q ∨ r' x y H Q) := by
  intro pins s σ H x y v u Q I rx ry h
  rcases h with h | h
  · exact a pins s σ H x y v u Q I rx ry h
  · exact b pins s σ H x y v u Q I rx ry h
theorem OpR.of {X : Cx} {f : Value → Value → Sem Value} {r r' : R2} (a : OpR X f r) (h : ∀ x y H Q, r' x y H Q → r x y H Q) : OpR X f r' := by
  intro pins s σ H x y v u Q I rx ry q
  exact a pins s σ H x y v u Q I rx ry (h _ _ _ _ q)

/-- + : two ints, two texts, two lists, two tuples -/
def oAdd (K : PySem.W.Frag) : R2 := fun x y H Q => match x, y with
  | .int i, .int j => Q (.int (i + j)) H
  | .str a, .str b => a.length + b.length ≤ sizeLine ∧ Q (.str (a ++ b)) H
  | .ref p, .ref q => rCat (.ref p) (.ref q) H Q ∨ rCatT K (.ref p) (.ref q) H Q
  | _, _ => False
theorem op_oAdd {X : Cx} : OpR X (binaryOp .Add) (oAdd X.K) := by
  refine OpR.of (OpR.or op_add (OpR.or op_add_str (OpR.or op_cat op_catT))) fun x y H Q h => ?_
  unfold oAdd at h
  split at h
  · exact .inl ⟨_, _, rfl, rfl, h⟩
  · exact .inr (.inl ⟨_, _, rfl, rfl, h.1, h.2⟩)
  · rcases h with h | h
    · exact .inr (.inr (.inl h))
    · exact .inr (.inr (.inr h))
  · exact h.elim
def oSub : R2 := fun x y H Q => match x, y with
  | .int i, .int j => Q (.int (i - j)) H
  | _, _ => False
theorem op_oSub {X : Cx} : OpR X (binaryOp .Sub) oSub := by
  refine OpR.of op_sub fun x y H Q h => ?_
  unfold oSub at h
  split at h
  · exact ⟨_, _, rfl, rfl, h⟩
  · exact h.elim
theorem op_mul_str {X : Cx} : OpR X (binaryOp .Mult) (fun x y H Q => ∃ z n, x = .str z ∧ y = .int n ∧ MulOk z n ∧ Q (.str (Txt.mul z n)) H) := by
  intro pins s σ H x y v u Q I rx ry h
  obtain ⟨z, n, rfl, rfl, hok, q⟩ := h
  obtain ⟨t, rfl⟩ := rx
  obtain ⟨t', rfl⟩ := ry
  exact SB.mul hok fun t' k => ⟨.str (Txt.mul z n), H, I.tok k, ⟨_, rfl⟩, q⟩
/-- * : two ints, a text and an int, a list and an int -/
def oMul : R2 := fun x y H Q => match x, y with
  | .int i, .int j => CMulW i j ∧ Q (.int (i * j)) H
  | .str a, .int n => MulOk a n ∧ Q (.str (Txt.mul a n)) H
  | .ref p, .int n => rRep (.ref p) (.int n) H Q
  | _, _ => False
theorem op_oMul {X : Cx} : OpR X (binaryOp .Mult) oMul := by
  refine OpR.of (OpR.or op_mulW (OpR.or op_mul_str op_rep)) fun x y H Q h => ?_
  unfold oMul at h
  split at h
  · exact .inl ⟨_, _, rfl, rfl, h.1, h.2⟩
  · exact .inr (.inl ⟨_, _, rfl, rfl, h.1, h.2⟩)
  · exact .inr (.inr h)
  · exact h.elim
def oMod : R2 := fun x y H Q => match x, y with
  | .int i, .int j => 0 < j ∧ Q (.int (i % j)) H
  | _, _ => False
theorem op_oMod {X : Cx} : OpR X (binaryOp .Mod) oMod := by
  refine OpR.of op_mod fun x y H Q h => ?_
  unfold oMod at h
  split at h
  · exact ⟨_, _, rfl, rfl, h.1, h.2⟩
  · exact h.elim
def oDiv : R2 := fun x y H Q => match x, y with
  | .int i, .int j => CDivW i j ∧ Q (.int (i / j)) H
  | _, _ => False
theorem op_oDiv {X : Cx} : OpR X (binaryOp .FloorDiv) oDiv := by
  refine OpR.of op_fdivW fun x y H Q h => ?_
  unfold oDiv at h
  split at h
  · exact ⟨_, _, rfl, rfl, h.1, h.2⟩
  · exact h.elim
def oPow : R2 := fun x y H Q => match x, y with
  | .int i, .int j => CPow i j ∧ Q (.int (i ^ j.toNat)) H
  | _, _ => False
theorem op_oPow {X : Cx} : OpR X (binaryOp .Pow) oPow := by
  refine OpR.of op_pow fun x y H Q h => ?_
  unfold oPow at h
  split at h
  · exact ⟨_, _, rfl, rfl, h.1, h.2⟩
  · exact h.elim
/-- an order of two ints -/
def oCmp (p : Int → Int → Bool) : R2 := fun x y H Q => match x, y with
  | .int i, .int j => Q (.bl (p i j)) H
  | _, _ => False
abbrev oLt : R2 := oCmp fun i j => decide (i < j)
abbrev oLe : R2 := oCmp fun i j => decide (i ≤ j)
abbrev oGt : R2 := oCmp fun i j => decide (j < i)
abbrev oGe : R2 := oCmp fun i j => decide (j ≤ i)
theorem oCmp_of {p : Int → Int → Bool} {x y : V} {H : Hp} {Q : VK} (h : oCmp p x y H Q) : rI0 (fun i j => .bl (p i j)) x y H Q := by
  unfold oCmp at h
  split at h
  · exact ⟨_, _, rfl, rfl, h⟩
  · exact h.elim
theorem op_oLt {X : Cx} : OpR X (compareOp .Lt) oLt := OpR.of op_lt fun _ _ _ _ h => oCmp_of h
theorem op_oLe {X : Cx} : OpR X (compareOp .LtE) oLe := OpR.of op_le fun _ _ _ _ h => oCmp_of h
theorem op_oGt {X : Cx} : OpR X (compareOp .Gt) oGt := OpR.of op_gt fun _ _ _ _ h => oCmp_of h
theorem op_oGe {X : Cx} : OpR X (compareOp .GtE) oGe := OpR.of op_ge fun _ _ _ _ h => oCmp_of h
def oIsN : R2 := fun x y H Q => y = .non ∧ Q (.bl (decide (x = .non))) H
def oNotN : R2 := fun x y H Q => y = .non ∧ Q (.bl (!decide (x = .non))) H
theorem op_oIsN {X : Cx} : OpR X (compareOp .Is) oIsN := op_isN
theorem op_oNotN {X : Cx} : OpR X (compareOp .IsNot) oNotN := op_notN
/-- == of flat values, and of data as a whole -/
def oEq (K : PySem.W.Frag) : R2 := fun x y H Q => rEq x y H Q ∨ rEqD K x y H Q
def oNe (K : PySem.W.Frag) : R2 := fun x y H Q => rNe x y H Q ∨ rNeD K x y H Q
theorem op_oEq {X : Cx} (hu : X.A.units + 65 < cLine) : OpR X (compareOp .Eq) (oEq X.K) := OpR.or op_eq (op_eqD (by omega))
theorem op_oNe {X : Cx} (hu : X.A.units + 65 < cLine) : OpR X (compareOp .NotEq) (oNe X.K) := OpR.or op_ne (op_neD (by omega))
theorem hu65 {k : Nat} {A : Around} (r : Room k A) : A.units + 65 < cLine := by have := r.un; omega
/-- x in a list or tuple of data -/
def rInT (K : PySem.W.Frag) (neg : Bool) : R2 := fun x y H Q => ∃ d ds, Dp K H x d ∧ (Dp K H y (.tuple ds) ∨ Dp K H y (.list ds)) ∧ SeqAt.shaped d = true ∧ SeqAt.shaped (.list ds) = true ∧ Q (.bl (if neg then !ds.any fun z => PyData.eqv z d else ds.any fun z => PyData.eqv z d)) H
theorem shaped_tl {ds : List PyData} : PyData.canLay0 (.tuple ds) = PyData.canLay0 (.list ds) := by simp [PyData.canLay0]
theorem op_inT {X : Cx} (hu : X.A.units + 65 < cLine) : OpR X (compareOp .In) (rInT X.K false) := by
  intro pins s σ H x y v u Q I rx ry h
  obtain ⟨d, ds, hd, he, sd, se, q⟩ := h
  obtain ⟨as, r1⟩ := Dp.reads I d x v hd rx
  rcases he with he | he
  · obtain ⟨bs, r2⟩ := Dp.reads I (.tuple ds) y u he ry
    exact SeqAt.in_tuple_reads r2 r1 (SeqAt.canLay_of_shaped se) (SeqAt.canLay_of_shaped sd) (room_in_shaped sd hu) ⟨.bl _, H, I, rfl, q⟩
  · obtain ⟨bs, r2⟩ := Dp.reads I (.list ds) y u he ry
    exact SeqAt.in_list_reads r2 r1 (SeqAt.canLay_of_shaped se) (SeqAt.canLay_of_shaped sd) (room_in_shaped sd hu) ⟨.bl _, H, I, rfl, q⟩
theorem op_notInT {X : Cx} (hu : X.A.units + 65 < cLine) : OpR X (compareOp .NotIn) (rInT X.K true) := by
  intro pins s σ H x y v u Q I rx ry h
  obtain ⟨d, ds, hd, he, sd, se, q⟩ := h
  obtain ⟨as, r1⟩ := Dp.reads I d x v hd rx
  rcases he with he | he
  · obtain ⟨bs, r2⟩ := Dp.reads I (.tuple ds) y u he ry
    exact SeqAt.notIn_tuple_reads r2 r1 (SeqAt.canLay_of_shaped se) (SeqAt.canLay_of_shaped sd) (room_in_shaped sd hu) ⟨.bl _, H, I, rfl, q⟩
  · obtain ⟨bs, r2⟩ := Dp.reads I (.list ds) y u he ry
    exact SeqAt.notIn_list_reads r2 r1 (SeqAt.canLay_of_shaped se) (SeqAt.canLay_of_shaped sd) (room_in_shaped sd hu) ⟨.bl _, H, I, rfl, q⟩
/-- in: one sign in a text, a flat thing in a list or tuple -/
def oIn (K : PySem.W.Frag) : R2 := fun x y H Q => match y with
  | .str z => ∃ c : Nat, x = .str ⟨#[c]⟩ ∧ Q (.bl (decide (c ∈ z.cps.toList))) H
  | .ref p => rIn K false x (.ref p) H Q ∨ rInT K false x (.ref p) H Q
  | _ => False
def oNotIn (K : PySem.W.Frag) : R2 := fun x y H Q => match y with
  | .str z => ∃ c : Nat, x = .str ⟨#[c]⟩ ∧ Q (.bl (!decide (c ∈ z.cps.toList))) H
  | .ref p => rIn K true x (.ref p) H Q ∨ rInT K true x (.ref p) H Q
  | _ => False
theorem op_oIn {X : Cx} (hu : X.A.units + 65 < cLine) : OpR X (compareOp .In) (oIn X.K) := by
  refine OpR.of (OpR.or op_in_sign (OpR.or op_in_seq (op_inT hu))) fun x y H Q h => ?_
  unfold oIn at h
  split at h
  · obtain ⟨c, rfl, q⟩ := h
    exact .inl ⟨c, _, rfl, rfl, q⟩
  · exact .inr h
  · exact h.elim
theorem op_oNotIn {X : Cx} (hu : X.A.units + 65 < cLine) : OpR X (compareOp .NotIn) (oNotIn X.K) := by
  refine OpR.of (OpR.or op_notIn_sign (OpR.or op_notIn_seq (op_notInT hu))) fun x y H Q h => ?_
  unfold oNotIn at h
  split at h
  · obtain ⟨c, rfl, q⟩ := h
    exact .inl ⟨c, _, rfl, rfl, q⟩
  · exact .inr h
  · exact h.elim
def oNeg : V → Hp → VK → Prop := fun x H Q => match x with
  | .int i => Q (.int (-i)) H
  | _ => False
theorem un_oNeg {X : Cx} : UnR X (unaryOp .USub) oNeg := by
  intro pins s σ H x u Q I rx h
  refine un_neg pins s σ H x u Q I rx ?_
  unfold oNeg at h
  split at h
  · exact ⟨_, rfl, h⟩
  · exact h.elim

/-! ### built-in functions -/
def cInt : List V → Hp → VK → Prop := fun xs H Q => match xs with
  | [.int i] => Q (.int i) H
  | [.bl k] => Q (.int (if k then 1 else 0)) H
  | _ => False
theorem call_cInt {X : Cx} : CallR X (.type "int") cInt := by
  intro pins s σ H xs us Q I r h
  refine call_int1 pins s σ H xs us Q I r ?_
  unfold cInt at h
  split at h
  · exact .inl ⟨_, rfl, h⟩
  · exact .inr ⟨_, rfl, h⟩
  · exact h.elim
def cAbs : List V → Hp → VK → Prop := fun xs H Q => match xs with
  | [.int i] => Q (.int (i.natAbs : Int)) H
  | _ => False
theorem call_cAbs {X : Cx} : CallR X (.builtin "abs") cAbs := by
  intro pins s σ H xs us Q I r h
  refine call_abs pins s σ H xs us Q I r ?_
  unfold cAbs at h
  split at h
  · rename_i i
    refine ⟨_, rfl, ?_⟩
    have e : (if i < 0 then -i else i) = (i.natAbs : Int) := by split <;> omega
    rw [e]
    exact h
  · exact h.elim
def cLen (K : PySem.W.Frag) : List V → Hp → VK → Prop := fun xs H Q => ∃ x n, xs = [x] ∧ LenV K x H n ∧ Q (.int n) H
theorem call_cLen {X : Cx} : CallR X (.builtin "len") (cLen X.K) := call_len
def cList (K : PySem.W.Frag) : List V → Hp → VK → Prop := fun xs H Q => ∃ p ys, xs = [.ref p] ∧ (SqL K H p ys ∨ SqT K H p ys) ∧ ∀ l, H l = none → Q (.ref l) (upd H l (.lst ys))
theorem call_cList {X : Cx} : CallR X (.type "list") (cList X.K) := call_list_of
def cTuple (K : PySem.W.Frag) : List V → Hp → VK → Prop := fun xs H Q => ∃ p ys, xs = [.ref p] ∧ SqL K H p ys ∧ ∀ l, H l = none → Q (.ref l) (upd H l (.tup ys))
/-- isinstance with one built-in class, by what the value is -/
def isTy (x : V) (H : Hp) (n : String) (b : Bool) : Prop := match x with
  | .non => b = false
  | .bl _ => b = (n == "bool" || n == "int")
  | .int _ => b = (n == "int")
  | .str _ => b = (n == "str")
  | .ref p => (∃ xs, H p = some (.tup xs)) ∧ b = (n == "tuple") ∨ (∃ xs, H p = some (.lst xs)) ∧ b = (n == "list")
  | _ => False
def tyNames : List String := ["bool", "int", "str", "tuple", "list"]
def cIsi (_K : PySem.W.Frag) : List V → Hp → VK → Prop := fun xs H Q => ∃ x n b, xs = [x, .ty n] ∧ n ∈ tyNames ∧ isTy x H n b ∧ Q (.bl b) H
theorem kit_names (K : PySem.W.Frag) : ∀ t ∈ (["NoneType", "bool", "int", "str", "tuple", "list"] : List String), ∀ n ∈ tyNames, PySem.W.kitOne K (.type t) (.type n) = some (t == n || (t == "bool" && n == "int")) := by
  intro t ht n hn
  simp only [tyNames, List.mem_cons, List.not_mem_nil, or_false] at ht hn
  rcases ht with rfl | rfl | rfl | rfl | rfl | rfl <;> rcases hn with rfl | rfl | rfl | rfl | rfl <;> exact kit_ty (by decide +kernel)

theorem call_cIsi {X : Cx} : CallR X (.builtin "isinstance") (cIsi X.K) := by
  intro pins s σ H xs us Q I r h
  refine call_isi pins s σ H xs us Q I r ?_
  obtain ⟨x, n, b, rfl, hn, ht, q⟩ := h
  have hk := fun t ht => kit_names X.K t ht n hn
  unfold isTy at ht
  split at ht
  · refine ⟨_, _, _, _, b, rfl, .ty n, .base .non, ?_, q⟩
    rw [hk "NoneType" (by decide), ht]
    simp only [tyNames, List.mem_cons, List.not_mem_nil, or_false] at hn
    rcases hn with rfl | rfl | rfl | rfl | rfl <;> rfl
  · refine ⟨_, _, _, _, b, rfl, .ty n, .base (.bl _), ?_, q⟩
    rw [hk "bool" (by decide), ht]
    simp only [tyNames, List.mem_cons, List.not_mem_nil, or_false] at hn
    rcases hn with rfl | rfl | rfl | rfl | rfl <;> rfl
  · refine ⟨_, _, _, _, b, rfl, .ty n, .base (.int _), ?_, q⟩
    rw [hk "int" (by decide), ht]
    simp only [tyNames, List.mem_cons, List.not_mem_nil, or_false] at hn
    rcases hn with rfl | rfl | rfl | rfl | rfl <;> rfl
  · refine ⟨_, _, _, _, b, rfl, .ty n, .base (.str _), ?_, q⟩
    rw [hk "str" (by decide), ht]
    simp only [tyNames, List.mem_cons, List.not_mem_nil, or_false] at hn
    rcases hn with rfl | rfl | rfl | rfl | rfl <;> rfl
  · rcases ht with ⟨⟨xs, e⟩, ht⟩ | ⟨⟨xs, e⟩, ht⟩
    · refine ⟨_, _, _, _, b, rfl, .ty n, .base (.tup e), ?_, q⟩
      rw [hk "tuple" (by decide), ht]
      simp only [tyNames, List.mem_cons, List.not_mem_nil, or_false] at hn
      rcases hn with rfl | rfl | rfl | rfl | rfl <;> rfl
    · refine ⟨_, _, _, _, b, rfl, .ty n, .base (.lst e), ?_, q⟩
      rw [hk "list" (by decide), ht]
      simp only [tyNames, List.mem_cons, List.not_mem_nil, or_false] at hn
      rcases hn with rfl | rfl | rfl | rfl | rfl <;> rfl
  · exact ht.elim

/-! ### slices, items, what a for walks: by what they meet -/
def oSl (K : PySem.W.Frag) : V → Option Int → Option Int → Hp → VK → Prop := fun x lo hi H Q => match x with
  | .str z => z.length ≤ sizeLine ∧ Q (.str (cutS z lo hi)) H
  | .ref p => rSlL K (.ref p) lo hi H Q ∨ rSlT K (.ref p) lo hi H Q
  | _ => False
theorem sl_oSl {X : Cx} : SlR X (oSl X.K) := by
  intro pins s σ H x v vl vu lo hi sl Q I rx hs pl pu h
  unfold oSl at h
  split at h
  · exact sl_str pins s σ H _ v vl vu lo hi sl Q I rx hs pl pu ⟨_, rfl, h.1, h.2⟩
  · rcases h with h | h
    · exact sl_list pins s σ H _ v vl vu lo hi sl Q I rx hs pl pu h
    · exact sl_tup pins s σ H _ v vl vu lo hi sl Q I rx hs pl pu h
  · exact h.elim
def oIx (K : PySem.W.Frag) : R2 := fun x y H Q => match x, y with
  | .str z, .int i => ∃ c : Nat, z.length ≤ sizeLine ∧ atI z.cps.toList i = some c ∧ Q (.str ⟨#[c]⟩) H
  | .ref p, .int i => ∃ xs v, (SqL K H p xs ∨ SqT K H p xs) ∧ atI xs i = some v ∧ Q v H
  | _, _ => False
theorem ix_oIx {X : Cx} : IxR X (oIx X.K) := by
  have key : ∀ x y H Q, oIx X.K x y H Q → rIx X.K x y H Q := by
    intro x y H Q h
    unfold oIx at h
    split at h
    · obtain ⟨c, hz, e, q⟩ := h
      exact .inr (.inr ⟨_, _, c, rfl, rfl, hz, e, q⟩)
    · obtain ⟨xs, v, hs, e, q⟩ := h
      rcases hs with hs | hs
      · exact .inl ⟨_, xs, _, v, rfl, rfl, hs, e, q⟩
      · exact .inr (.inl ⟨_, xs, _, v, rfl, rfl, hs, e, q⟩)
    · exact h.elim
  have base := ix_seq (X := X)
  unfold IxR at base ⊢
  intros
  apply base <;> first | assumption | (apply key; assumption)
def iAny (K : PySem.W.Frag) (tl : TE) : TI := fun σ H R => iList K tl σ H R ∨ iTup K tl σ H R ∨ iStr tl σ H R
theorem pi_any {X : Cx} {tg l : Expr} {tl : TE} (hl : PE X l tl) : PI X tg l (iAny X.K tl) := ⟨fun pins s σ H R I h => by
  rcases h with h | h | h
  · exact (pi_list hl).run pins s σ H R I h
  · exact (pi_tup hl).run pins s σ H R I h
  · exact (pi_str hl).run pins s σ H R I h⟩
theorem PE.or {X : Cx} {e : Expr} {t u : TE} (a : PE X e t) (b : PE X e u) : PE X e (fun σ H Q => t σ H Q ∨ u σ H Q) := ⟨fun pins s σ H Q I h => by
  rcases h with h | h
  · exact a.run pins s σ H Q I h
  · exact b.run pins s σ H Q I h⟩
/-- a comparison in the middle: a < b < c -/
theorem PT.or {X : Cx} {e : Expr} {t u : TT} (a : PT X e t) (b : PT X e u) : PT X e (fun σ H Q => t σ H Q ∨ u σ H Q) := ⟨fun pins s σ H Q I h => by
  rcases h with h | h
  · exact a.run pins s σ H Q I h
  · exact b.run pins s σ H Q I h⟩

theorem bi_int : bootBuiltins "int" = some (.type "int") := by decide +kernel
theorem bi_list : bootBuiltins "list" = some (.type "list") := by decide +kernel
theorem bi_tuple : bootBuiltins "tuple" = some (.type "tuple") := by decide +kernel
theorem bi_bool : bootBuiltins "bool" = some (.type "bool") := by decide +kernel
theorem bi_str : bootBuiltins "str" = some (.type "str") := by decide +kernel
theorem bi_dict : bootBuiltins "dict" = some (.type "dict") := by decide +kernel
theorem bi_len : bootBuiltins "len" = some (.builtin "len") := by decide +kernel
theorem bi_abs : bootBuiltins "abs" = some (.builtin "abs") := by decide +kernel
theorem bi_isinstance : bootBuiltins "isinstance" = some (.builtin "isinstance") := by decide +kernel
theorem bi_ValueError : bootBuiltins "ValueError" = some (.type "ValueError") := by decide +kernel
end Ov

set_option Elab.async false
set_option linter.all false
set_option maxRecDepth 100000
namespace Ov
open PySem PySem.Spec PyProof.Rows L2
/-! ### readings, step by step -/
section
variable {σ σ' : L2.St} {H H' : Hp} {t u : TS} {D : Ends} {te ta tb : TE} {tt tu : TT} {g : TG} {Q : VK} {QB : Bool → Hp → Prop} {i : Nat} {v : V} {r : R2} {QA : List V → Hp → Prop} {al ar : TA}
theorem q_seq (h : t { D with nx := u D } σ H) : tSeq t u D σ H := h
theorem q_asg (h : te σ H fun x H1 => g x σ H1 D.nx) : tAsg te g D σ H := h
theorem q_name {QS : L2.St → Hp → Prop} (h : QS (σ.set i (some v)) H) : gName i v σ H QS := h
theorem q_drop (h : te σ H fun _ H1 => D.nx σ H1) : tDrop te D σ H := h
theorem q_ret (h : te σ H D.rt) : tRet te D σ H := h
theorem q_retN (h : D.rt .non H) : tRetN D σ H := h
theorem q_next (h : D.nx σ H) : tNext D σ H := h
theorem q_break (h : D.bk σ H) : tBreak D σ H := h
theorem q_cont (h : D.ct σ H) : tCont D σ H := h
theorem q_ifS (h : tt σ H fun b H1 => if b = true then t D σ H1 else u D σ H1) : tIfS tt t u D σ H := h
theorem q_ifE (h : tt σ H fun c H1 => if c = true then ta σ H1 Q else tb σ H1 Q) : tIf tt ta tb σ H Q := h
theorem q_var (e : σ[i]? = some (some v)) (h : Q v H) : tVar i σ H Q := ⟨v, e, h⟩
theorem q_c (h : Q v H) : tC v σ H Q := h
theorem q_op (h : ta σ H fun x H1 => tb σ H1 fun y H2 => r x y H2 Q) : tOp r ta tb σ H Q := h
theorem q_un {r : V → Hp → VK → Prop} (h : ta σ H fun x H1 => r x H1 Q) : tUn r ta σ H Q := h
theorem q_test (h : te σ H fun x H' => ∃ k, x = .bl k ∧ QB k H') : tTest te σ H QB := h
theorem q_tB (h : te σ H fun x H' => ∃ k, x = .bl k ∧ QB k H') : tB te σ H QB := h
theorem q_bl {b : Bool} {R : Bool → Prop} (h : R b) : ∃ k, V.bl b = V.bl k ∧ R k := ⟨b, rfl, h⟩
theorem q_and (h : tt σ H fun c H1 => if c = true then tu σ H1 QB else QB false H1) : tAnd tt tu σ H QB := h
theorem q_or (h : tt σ H fun c H1 => if c = true then QB true H1 else tu σ H1 QB) : tOr tt tu σ H QB := h
theorem q_not (h : tt σ H fun c H1 => QB (!c) H1) : tNot tt σ H QB := h
theorem q_andV (h : ta σ H fun x H1 => ∃ c, x = .bl c ∧ if c = true then tb σ H1 Q else Q (.bl false) H1) : tAndV ta tb σ H Q := h
theorem q_orV (h : ta σ H fun x H1 => ∃ c, x = .bl c ∧ if c = true then Q (.bl true) H1 else tb σ H1 Q) : tOrV ta tb σ H Q := h
theorem q_notV (h : ta σ H fun x H1 => ∃ c, x = .bl c ∧ Q (.bl (!c)) H1) : tNotV ta σ H Q := h
theorem q_cons (h : te σ H fun x H1 => ar σ H1 fun xs H2 => QA (x :: xs) H2) : tCons te ar σ H QA := h
theorem q_nil (h : QA [] H) : tNil σ H QA := h
theorem q_call {sp : Sp} {dvs : List V} {E : XK} (h : al σ H fun vs H1 => sp (vs ++ dvs) H1 Q E) : tCall sp dvs E al σ H Q := h
theorem q_cb {r : List V → Hp → VK → Prop} (h : al σ H fun vs H1 => r vs H1 Q) : tCB r al σ H Q := h
theorem q_tup (h : al σ H fun xs H1 => xs.length ≤ sizeLine ∧ ∀ p, H1 p = none → Q (.ref p) (upd H1 p (.tup xs))) : tTup al σ H Q := h
theorem q_lst (h : al σ H fun xs H1 => xs.length ≤ sizeLine ∧ ∀ p, H1 p = none → Q (.ref p) (upd H1 p (.lst xs))) : tLst al σ H Q := h
theorem q_sl {r : V → Option Int → Option Int → Hp → VK → Prop} {tl th : TO} (h : te σ H fun x H1 => tl σ H1 fun l H2 => th σ H2 fun u H3 => r x l u H3 Q) : tSl r te tl th σ H Q := h
theorem q_noPart {QO : Option Int → Hp → Prop} (h : QO none H) : tNoPart σ H QO := h
theorem q_part {QO : Option Int → Hp → Prop} (h : te σ H fun x H1 => ∃ i, x = .int i ∧ QO (some i) H1) : tPart te σ H QO := h
theorem q_int {j : Int} {R : Int → Prop} (h : R j) : ∃ i, V.int j = V.int i ∧ R i := ⟨j, rfl, h⟩
theorem q_gsub {to ti : TE} {ts : TSet} {QS : L2.St → Hp → Prop} (h : to σ H fun o H1 => ti σ H1 fun i H2 => ts o i v H2 fun H3 => QS σ H3) : gSub to ti ts v σ H QS := h
theorem q_bm {K : PySem.W.Frag} {T : String} {r : V → List V → Hp → VK → Prop} (h : te σ H fun x H1 => tyV K T x H1 ∧ al σ H1 fun xs H2 => r x xs H2 Q) : tBM K T r te al σ H Q := h
theorem q_bm0 {K : PySem.W.Frag} {T : String} {r : V → List V → Hp → VK → Prop} (h : te σ H fun x H1 => tyV K T x H1 ∧ r x [] H1 Q) : tBM0 K T r te σ H Q := h
theorem q_for {wi : TI} {tb : TS} (h : wi σ H fun J H1 => ∃ W : Nat → Nat → L2.St → Hp → Prop, (∃ m, W 0 m σ H1) ∧ ∀ i m σ H, W i m σ H →
  (J.stop i H ∧ D.nx σ H) ∨ (J.go i H ∧ ∃ N : L2.St → Hp → Prop, (∀ σ' H', N σ' H' → ∃ m', m' < m ∧ W (i + 1) m' σ' H') ∧ ∀ x H', J.yld i H x H' → g x σ H' fun σ2 H2 => tb { D with nx := N, ct := N, bk := D.nx } σ2 H2)) : tFor wi g tb D σ H := h
/-! operators at values that are known -/
theorem q_addI {K : PySem.W.Frag} {i j : Int} (h : Q (.int (i + j)) H) : oAdd K (.int i) (.int j) H Q := h
theorem q_subI {i j : Int} (h : Q (.int (i - j)) H) : oSub (.int i) (.int j) H Q := h
theorem q_ltI {i j : Int} (h : Q (.bl (decide (i < j))) H) : oLt (.int i) (.int j) H Q := h
theorem q_leI {i j : Int} (h : Q (.bl (decide (i ≤ j))) H) : oLe (.int i) (.int j) H Q := h
theorem q_gtI {i j : Int} (h : Q (.bl (decide (j < i))) H) : oGt (.int i) (.int j) H Q := h
theorem q_geI {i j : Int} (h : Q (.bl (decide (j ≤ i))) H) : oGe (.int i) (.int j) H Q := h
theorem q_negI {i : Int} (h : Q (.int (-i)) H) : oNeg (.int i) H Q := h
theorem q_cIntI {i : Int} (h : Q (.int i) H) : cInt [.int i] H Q := h
theorem q_cIntB {k : Bool} (h : Q (.int (if k then 1 else 0)) H) : cInt [.bl k] H Q := h
theorem q_cAbs {i : Int} (h : Q (.int (i.natAbs : Int)) H) : cAbs [.int i] H Q := h
theorem q_modI {i j : Int} (hj : 0 < j) (h : Q (.int (i % j)) H) : oMod (.int i) (.int j) H Q := ⟨hj, h⟩
theorem q_eqS {K : PySem.W.Frag} {x y : V} (hs : scal x y = true) (h : Q (.bl (decide (x = y))) H) : oEq K x y H Q := .inl ⟨hs, h⟩
theorem q_neS {K : PySem.W.Frag} {x y : V} (hs : scal x y = true) (h : Q (.bl (!decide (x = y))) H) : oNe K x y H Q := .inl ⟨hs, h⟩
theorem q_eqD {K : PySem.W.Frag} {x y : V} {d e : PyData} (hx : Dp K H x d) (hy : Dp K H y e) (sx : SeqAt.shaped d = true) (sy : SeqAt.shaped e = true) (h : Q (.bl (PyData.eqv d e)) H) : oEq K x y H Q := .inr ⟨d, e, hx, hy, sx, sy, h⟩
theorem q_inD {K : PySem.W.Frag} {x : V} {p : Addr} {d : PyData} {ds : List PyData} (hx : Dp K H x d) (hy : Dp K H (.ref p) (.tuple ds) ∨ Dp K H (.ref p) (.list ds)) (sx : SeqAt.shaped d = true) (sy : SeqAt.shaped (.list ds) = true) (h : Q (.bl (ds.any fun z => PyData.eqv z d)) H) : oIn K x (.ref p) H Q := .inr ⟨d, ds, hx, hy, sx, sy, h⟩
theorem q_isN (h : Q (.bl (decide (v = .non))) H) : oIsN v .non H Q := ⟨rfl, h⟩
theorem q_notN (h : Q (.bl (!decide (v = .non))) H) : oNotN v .non H Q := ⟨rfl, h⟩
theorem q_ixS {K : PySem.W.Frag} {z : Str} {i : Int} {c : Nat} (hz : z.length ≤ sizeLine) (e : atI z.cps.toList i = some c) (h : Q (.str ⟨#[c]⟩) H) : oIx K (.str z) (.int i) H Q := ⟨c, hz, e, h⟩
theorem q_ixL {K : PySem.W.Frag} {p : Addr} {xs : List V} {i : Int} (hp : H p = some (.lst xs)) (e : atI xs i = some v) (h : Q v H) : oIx K (.ref p) (.int i) H Q := ⟨xs, v, .inl (SqL.of hp), e, h⟩
theorem q_ixT {K : PySem.W.Frag} {p : Addr} {xs : List V} {i : Int} (hp : H p = some (.tup xs)) (e : atI xs i = some v) (h : Q v H) : oIx K (.ref p) (.int i) H Q := ⟨xs, v, .inr (SqT.of hp), e, h⟩
theorem q_setL {p : Addr} {xs : List V} {k : Int} {j : Nat} {QH : Hp → Prop} (hp : H p = some (.lst xs)) (e : ixN xs.length k = some j) (h : QH (upd H p (.lst (xs.set j v)))) : rSetL (.ref p) (.int k) v H QH := ⟨p, xs, k, j, rfl, rfl, hp, e, h⟩
theorem q_lenL {K : PySem.W.Frag} {p : Addr} {xs : List V} (hp : H p = some (.lst xs)) (h : Q (.int xs.length) H) : cLen K [.ref p] H Q := ⟨_, xs.length, rfl, .inl ⟨xs, SqL.of hp, rfl⟩, h⟩
theorem q_lenT {K : PySem.W.Frag} {p : Addr} {xs : List V} (hp : H p = some (.tup xs)) (h : Q (.int xs.length) H) : cLen K [.ref p] H Q := ⟨_, xs.length, rfl, .inr ⟨xs, SqT.of hp, rfl⟩, h⟩
theorem q_lenS {K : PySem.W.Frag} {z : Str} (hz : z.length ≤ sizeLine) (h : Q (.int z.length) H) : cLen K [.str z] H Q := ⟨_, z.length, rfl, ⟨hz, rfl⟩, h⟩
theorem q_addS {K : PySem.W.Frag} {a b : Str} (hl : a.length + b.length ≤ sizeLine) (h : Q (.str (a ++ b)) H) : oAdd K (.str a) (.str b) H Q := ⟨hl, h⟩
theorem q_addL {K : PySem.W.Frag} {p q : Addr} {xs ys : List V} (hp : H p = some (.lst xs)) (hq : H q = some (.lst ys)) (hl : xs.length + ys.length ≤ sizeLine) (h : ∀ r, H r = none → Q (.ref r) (upd H r (.lst (xs ++ ys)))) : oAdd K (.ref p) (.ref q) H Q := .inl ⟨p, q, xs, ys, rfl, rfl, hp, hq, hl, h⟩
theorem q_mulI {i j : Int} (hc : CMulW i j) (h : Q (.int (i * j)) H) : oMul (.int i) (.int j) H Q := ⟨hc, h⟩
theorem q_divI {i j : Int} (hc : CDivW i j) (h : Q (.int (i / j)) H) : oDiv (.int i) (.int j) H Q := ⟨hc, h⟩
theorem q_powI {i j : Int} (hc : CPow i j) (h : Q (.int (i ^ j.toNat)) H) : oPow (.int i) (.int j) H Q := ⟨hc, h⟩
theorem q_slS {K : PySem.W.Frag} {z : Str} {lo hi : Option Int} (hz : z.length ≤ sizeLine) (h : Q (.str (cutS z lo hi)) H) : oSl K (.str z) lo hi H Q := ⟨hz, h⟩
theorem q_isi {K : PySem.W.Frag} {x : V} {n : String} (b : Bool) (hn : n ∈ tyNames) (ht : isTy x H n b) (h : Q (.bl b) H) : cIsi K [x, .ty n] H Q := ⟨x, n, b, rfl, hn, ht, h⟩
theorem q_inS {K : PySem.W.Frag} {c : Nat} {z : Str} (h : Q (.bl (decide (c ∈ z.cps.toList))) H) : oIn K (.str ⟨#[c]⟩) (.str z) H Q := ⟨c, rfl, h⟩
theorem q_notInS {K : PySem.W.Frag} {c : Nat} {z : Str} (h : Q (.bl (!decide (c ∈ z.cps.toList))) H) : oNotIn K (.str ⟨#[c]⟩) (.str z) H Q := ⟨c, rfl, h⟩
theorem q_append {p : Addr} {xs : List V} (hp : H p = some (.lst xs)) (hl : xs.length < sizeLine) (h : Q .non (upd H p (.lst (xs ++ [v])))) : rAppend (.ref p) [v] H Q := ⟨p, xs, v, rfl, rfl, hp, hl, h⟩
end
theorem q_dec {p A B : Prop} [Decidable p] (h1 : p → A) (h2 : ¬ p → B) : if decide p = true then A else B := by
  by_cases h : p
  · rw [if_pos (decide_eq_true h)]
    exact h1 h
  · rw [if_neg (by rw [decide_eq_false h]; exact Bool.false_ne_true)]
    exact h2 h
theorem q_decT {p A B : Prop} [Decidable p] (h : p) (h1 : A) : if decide p = true then A else B := by
  rw [if_pos (decide_eq_true h)]
  exact h1
theorem q_decF {p A B : Prop} [Decidable p] (h : ¬ p) (h1 : B) : if decide p = true then A else B := by
  rw [if_neg (by rw [decide_eq_false h]; exact Bool.false_ne_true)]
  exact h1
theorem q_ndec {p A B : Prop} [Decidable p] (h1 : ¬ p → A) (h2 : p → B) : if (!decide p) = true then A else B := by
  by_cases h : p
  · rw [if_neg (by rw [decide_eq_true h]; decide)]
    exact h2 h
  · rw [if_pos (by rw [decide_eq_false h]; decide)]
    exact h1 h
theorem q_T {A B : Prop} (h : A) : if true = true then A else B := by
  rw [if_pos rfl]
  exact h
theorem q_F {A B : Prop} (h : B) : if false = true then A else B := by
  rw [if_neg Bool.false_ne_true]
  exact h
theorem q_b {A B : Prop} {b : Bool} (h1 : b = true → A) (h2 : b = false → B) : if b = true then A else B := by
  cases b with
  | true => exact q_T (h1 rfl)
  | false => exact q_F (h2 rfl)

/-! ### pure tests and values, as a whole -/
def Val (te : TE) (σ : L2.St) (H : Hp) (v : V) : Prop := ∀ Q : VK, Q v H → te σ H Q
def Ans (t : TT) (σ : L2.St) (H : Hp) (b : Bool) : Prop := ∀ Q : Bool → Hp → Prop, Q b H → t σ H Q
section
variable {σ : L2.St} {H : Hp} {t u : TS} {D : Ends} {te ta tb : TE} {tt tu : TT} {i : Nat} {v x y z : V} {r : R2} {b b1 b2 : Bool} {Q : VK} {K : PySem.W.Frag} {p : Addr} {xs : List V} {k : Int}
theorem q_ifA (h : Ans tt σ H b) (h1 : b = true → t D σ H) (h2 : b = false → u D σ H) : tIfS tt t u D σ H := by
  refine h _ ?_
  cases b with
  | true => exact q_T (h1 rfl)
  | false => exact q_F (h2 rfl)
theorem q_val (h : Val te σ H v) (q : Q v H) : te σ H Q := h Q q
theorem an_test (h : Val te σ H (.bl b)) : Ans (tTest te) σ H b := fun Q q => h _ ⟨b, rfl, q⟩
theorem an_tB (h : Val te σ H (.bl b)) : Ans (tB te) σ H b := fun Q q => h _ ⟨b, rfl, q⟩
theorem an_and (h1 : Ans tt σ H b1) (h2 : b1 = true → Ans tu σ H b2) : Ans (tAnd tt tu) σ H (b1 && b2) := by
  intro Q q
  refine h1 _ ?_
  cases b1 with
  | true => exact q_T (h2 rfl Q q)
  | false => exact q_F q
theorem an_or (h1 : Ans tt σ H b1) (h2 : b1 = false → Ans tu σ H b2) : Ans (tOr tt tu) σ H (b1 || b2) := by
  intro Q q
  refine h1 _ ?_
  cases b1 with
  | true => exact q_T q
  | false => exact q_F (h2 rfl Q q)
theorem an_not (h : Ans tt σ H b) : Ans (tNot tt) σ H (!b) := fun Q q => h _ q
theorem Ans.to (h : Ans tt σ H b) (e : b = b1) : Ans tt σ H b1 := e ▸ h
theorem va_var (e : σ[i]? = some (some v)) : Val (tVar i) σ H v := fun _ q => ⟨v, e, q⟩
theorem va_c : Val (tC v) σ H v := fun _ q => q
theorem va_op (ha : Val ta σ H x) (hb : Val tb σ H y) (hr : ∀ Q : VK, Q z H → r x y H Q) : Val (tOp r ta tb) σ H z := fun Q q => ha _ (hb _ (hr Q q))
theorem va_eqS (ha : Val ta σ H x) (hb : Val tb σ H y) (hs : scal x y = true) : Val (tOp (oEq K) ta tb) σ H (.bl (decide (x = y))) := va_op ha hb fun _ q => q_eqS hs q
theorem va_neS (ha : Val ta σ H x) (hb : Val tb σ H y) (hs : scal x y = true) : Val (tOp (oNe K) ta tb) σ H (.bl (!decide (x = y))) := va_op ha hb fun _ q => q_neS hs q
theorem va_ixT (ha : Val ta σ H (.ref p)) (hb : Val tb σ H (.int k)) (hp : H p = some (.tup xs)) (e : atI xs k = some v) : Val (tOp (oIx K) ta tb) σ H v := va_op ha hb fun _ q => q_ixT hp e q
theorem va_ixL (ha : Val ta σ H (.ref p)) (hb : Val tb σ H (.int k)) (hp : H p = some (.lst xs)) (e : atI xs k = some v) : Val (tOp (oIx K) ta tb) σ H v := va_op ha hb fun _ q => q_ixL hp e q
theorem va_cmp {f : Int → Int → Bool} {j : Int} (ha : Val ta σ H (.int k)) (hb : Val tb σ H (.int j)) : Val (tOp (oCmp f) ta tb) σ H (.bl (f k j)) := va_op ha hb fun _ q => q
theorem va_add {j : Int} (ha : Val ta σ H (.int k)) (hb : Val tb σ H (.int j)) : Val (tOp (oAdd K) ta tb) σ H (.int (k + j)) := va_op ha hb fun _ q => q
theorem va_lenS {s : Str} {ar : TA} (ha : Val ta σ H (.str s)) (hl : s.length ≤ sizeLine) : Val (tCB (cLen K) (tCons ta tNil)) σ H (.int s.length) := fun Q q => ha _ (q_lenS hl q)
theorem va_lenL {ar : TA} (ha : Val ta σ H (.ref p)) (hp : H p = some (.lst xs)) : Val (tCB (cLen K) (tCons ta tNil)) σ H (.int xs.length) := fun Q q => ha _ (q_lenL hp q)
theorem va_lenT {ar : TA} (ha : Val ta σ H (.ref p)) (hp : H p = some (.tup xs)) : Val (tCB (cLen K) (tCons ta tNil)) σ H (.int xs.length) := fun Q q => ha _ (q_lenT hp q)
theorem va_isN (ha : Val ta σ H x) : Val (tOp oIsN ta (tC .non)) σ H (.bl (decide (x = .non))) := va_op ha va_c fun _ q => q_isN q
theorem va_notN (ha : Val ta σ H x) : Val (tOp oNotN ta (tC .non)) σ H (.bl (!decide (x = .non))) := va_op ha va_c fun _ q => q_notN q
theorem va_isi {n : String} (b : Bool) (ha : Val ta σ H x) (hn : n ∈ tyNames) (ht : isTy x H n b) : Val (tCB (cIsi K) (tCons ta (tCons (tC (.ty n)) tNil))) σ H (.bl b) := fun Q q => ha _ (q_isi (K := K) b hn ht q)
theorem va_andV (ha : Val ta σ H (.bl b1)) (hb : b1 = true → Val tb σ H (.bl b2)) : Val (tAndV ta tb) σ H (.bl (b1 && b2)) := by
  intro Q q
  refine ha _ ⟨b1, rfl, ?_⟩
  cases b1 with
  | true => exact q_T (hb rfl Q q)
  | false => exact q_F q
end

/-! ### loops -/
section
variable {K : PySem.W.Frag} {σ : L2.St} {H : Hp} {D : Ends} {g : TG} {tb : TS} {te : TE} {i : Nat} {a : Addr} {xs : List V}
/-- over a list that the body leaves as it is -/
theorem q_forL (e : σ[i]? = some (some (.ref a))) (Pv : Nat → L2.St → Hp → Prop) (h0 : Pv 0 σ H) (hl : ∀ i σ H, i ≤ xs.length → Pv i σ H → SqL K H a xs)
    (hs : ∀ i x σ H, xs[i]? = some x → Pv i σ H → g x σ H fun σ2 H2 => tb { D with nx := Pv (i + 1), ct := Pv (i + 1), bk := D.nx } σ2 H2) (hd : ∀ σ H, Pv xs.length σ H → D.nx σ H) : tFor (iAny K (tVar i)) g tb D σ H :=
  Or.inl ⟨_, e, a, rfl, ⟨_, hl 0 σ H (Nat.zero_le _) h0⟩, for_list (K := K) (a := a) (xs := xs) Pv h0 hl hs hd⟩
/-- over a list that is written or made there -/
theorem q_forN {al : TA} (h : al σ H fun vs H1 => vs.length ≤ sizeLine ∧ ∀ p, H1 p = none → ∃ Pv : Nat → L2.St → Hp → Prop, Pv 0 σ (upd H1 p (.lst vs)) ∧ (∀ i σ H, i ≤ vs.length → Pv i σ H → SqL K H p vs) ∧
    (∀ i x σ H, vs[i]? = some x → Pv i σ H → g x σ H fun σ2 H2 => tb { D with nx := Pv (i + 1), ct := Pv (i + 1), bk := D.nx } σ2 H2) ∧ (∀ σ H, Pv vs.length σ H → D.nx σ H))
    (mono : ∀ Q Q' : List V → Hp → Prop, (∀ vs H, Q vs H → Q' vs H) → al σ H Q → al σ H Q') : tFor (iAny K (tLst al)) g tb D σ H := by
  refine Or.inl ?_
  show tLst al σ H _
  refine mono _ _ (fun vs H1 q => ?_) h
  obtain ⟨hl, q⟩ := q
  refine ⟨hl, fun p hp => ?_⟩
  obtain ⟨Pv, h0, h1, h2, h3⟩ := q p hp
  exact ⟨p, rfl, ⟨_, h1 0 _ _ (Nat.zero_le _) h0⟩, for_list (K := K) (a := p) (xs := vs) Pv h0 h1 h2 h3⟩
/-- over range(n) -/
theorem q_forR {n : Int} (hv : Val te σ H (.int n)) (h1 : -(2 ^ 62) ≤ n) (h2 : n < 2 ^ 62) (Pv : Nat → L2.St → Hp → Prop) (h0 : Pv 0 σ H)
    (hs : ∀ i σ H, i < n.toNat → Pv i σ H → g (.int (0 + i)) σ H fun σ2 H2 => tb { D with nx := Pv (i + 1), ct := Pv (i + 1), bk := D.nx } σ2 H2) (hd : ∀ σ H, Pv n.toNat σ H → D.nx σ H) : tFor (iRng1 (tCons te tNil)) g tb D σ H :=
  hv _ ⟨n, rfl, h1, h2, for_range Pv h0 hs hd⟩
/-- over a text -/
theorem q_forS {z : Str} (e : σ[i]? = some (some (.str z))) (Pv : Nat → L2.St → Hp → Prop) (h0 : Pv 0 σ H)
    (hs : ∀ i c σ H, z.cps.toList[i]? = some c → Pv i σ H → g (.str ⟨#[c]⟩) σ H fun σ2 H2 => tb { D with nx := Pv (i + 1), ct := Pv (i + 1), bk := D.nx } σ2 H2) (hd : ∀ σ H, Pv z.length σ H → D.nx σ H) : tFor (iAny K (tVar i)) g tb D σ H := by
  refine Or.inr (Or.inr ⟨_, e, z, rfl, ?_⟩)
  refine ⟨fun i m σ H => m = z.length - i ∧ i ≤ z.length ∧ Pv i σ H, ⟨z.length, by simp, Nat.zero_le _, h0⟩, ?_⟩
  rintro i m σ H ⟨rfl, hi, p⟩
  by_cases hlt : i < z.length
  · refine .inr ⟨hlt, Pv (i + 1), fun σ' H' p' => ⟨z.length - (i + 1), by omega, rfl, hlt, p'⟩, fun x H' y => ?_⟩
    obtain ⟨e, c, hc, rfl⟩ := y
    subst e
    exact hs i c σ _ (by rw [Array.getElem?_toList]; exact hc) p
  · have e : i = z.length := by omega
    subst e
    exact .inl ⟨Nat.le_refl _, hd σ H p⟩
end
end Ov

set_option Elab.async false
set_option linter.all false
set_option maxRecDepth 100000
set_option maxHeartbeats 2000000
/-! own errors over ValueError whose __init__ says super().__init__(a text) and keeps one field -/
namespace PySem
namespace ExS
open PySem.W PySem.Calls PyProof.Rows PySem.HandSPX PySem.Spec
/-- what the written part says of the class called cn, at C, and of its __init__, at fI; its one field is fn -/
structure ETxt (P : Program) (K : Frag) (mg : Str → Option Value) (cn fn : Str) (C fI : Addr) : Prop where
  gC : mg cn = some (.ref C)
  cls : ∃ nm q N bs bm sn sub ab col dd k0 k1 k2 k3 k5, K.lookup C = some (excClassObj nm q C N bs bm true sn sub ab col dd k0 k1 k2 k3 k5 "ValueError.__new__") ∧ refsVE bm = true
  alo : ks_superIn K C C "__init__" = some (some (.builtin "ValueError.__init__"))
  sa : findIn K (.ref C) "__setattr__" = some (some (.builtin "object.__setattr__"))
  noN : findIn K (.ref C) fn = some none
  iC : findIn K (.ref C) "__init__" = some (some (.ref fI))
  tC : typeIn K (.ref fI) = some (.type "function")
  kC : keepIn K (.ref C) = true
  exC : subIn K (.ref C) (.type "BaseException") = some true
  veC : subIn K (.ref C) (.type "ValueError") = some true
  slf : mroIn K C (.ref C) = some true
  tyC : typeIn K (.ref C) = some (.type "type")
  opq : nsIn K cStatics "thirdparty.any" = some none
  sup : mg "super" = none
  top : (P.main.scope.names.lookup ("super" : Str)).isSome = false
  fun_ : ∃ (oc : Value) (od : Option Addr) (params : Arguments) (body : List Stmt) (scope : Scope) (qual : Str) (doc pm : Value) (an : Option Addr) (cda cc : Addr) (ct : Value) (osl : Array (Option Value)) (p1 p2 a1 a2 a3 a4 a5 a6 b1 b2 b3 b4 : Pos) (j : Nat) (txt : Str)
      (ccl cl : Value) (cdd cld : Option Addr) (vs : Array Value) (ccs csl : Array (Option Value)) (file : Str) (tf : Tok),
    K.lookup fI = some ⟨oc, od, .func (ksFn "__init__" qual params body scope .none .none doc pm an (.ref cda) ct cc), osl⟩ ∧ codeIn K (.ref cda) qual = true ∧
    params = { posonlyargs := [], args := [{ arg := "self", annotation := none, pos := p1 }, { arg := fn, annotation := none, pos := p2 }], vararg := none, kwonlyargs := [], kw_defaults := [], kwarg := none, defaults := [] } ∧
    body = [.Expr (.Call (.Attribute (.Call (.Name "super" a1) [] [] a2) "__init__" a3) [.Constant (.str txt) j a4] [] a5) a6, .Assign [.Attribute (.Name "self" b1) fn b2] (.Name fn b3) b4] ∧
    scope = { kind := .function, names := [("self", .local), (fn, .local), ("__class__", .free), ("super", .globalImplicit)], isGenerator := false, isCoroutine := false, more := [] } ∧
    (∀ (x : Addr) (v : Value), bindArgs (ksFn "__init__" qual params body scope .none .none doc pm an (.ref cda) ct cc) ⟨[.ref x, v], []⟩ = pure [(("self" : Str), Value.ref x), (fn, v)]) ∧
    (∃ pl : Sem Bool, ∀ env : Env, eval (.Call (.Attribute (.Call (.Name "super" a1) [] [] a2) "__init__" a3) [.Constant (.str txt) j a4] [] a5) env = (do
      let ov ← attributeBase (.Call (.Name "super" a1) [] [] a2) "__init__" env (eval (.Call (.Name "super" a1) [] [] a2) env)
      standAt a3.atName
      let (f, first) ← holding [ov] (getMethod ov "__init__" pl)
      callWith a5 f first (backTo a5 (starEach [.Constant (.str txt) j a4] env)) [])) ∧
    (∀ env : Env, swapsWith (.Call (.Attribute (.Call (.Name "super" a1) [] [] a2) "__init__" a3) [.Constant (.str txt) j a4] [] a5) none a6.line env = pure false) ∧
    (∀ env : Env, swapsWith (.Name fn b3) (some (.Attribute (.Name "self" b1) fn b2)) b4.line env = pure false) ∧
    K.lookup cda = some ⟨ccl, cdd, .fields vs, ccs⟩ ∧ vs[2]? = some (.str file tf) ∧ ((P.main.file : Str) == file) = true ∧ K.lookup cc = some ⟨cl, cld, .cell (some (.ref C)), csl⟩
/-- what __init__ leaves of a fresh exception at x -/
structure IEnd (fn : Str) (h h' : Heap) (x C dx t1 : Addr) (v : Value) : Prop where
  keep : ∀ b o, b ≠ x → h.get? b = some o → h'.get? b = some o
  obj : h'.get? x = some { cls := .ref C, dict := some dx, data := .fields #[.ref t1, .none, .none, .none, .bool false, .none] }
  dbig : h.objs.size ≤ dx
  dne : dx ≠ x
  ns : h'.Ns1 dx (fun y => if y = fn then some v else none)
theorem ldK {M : Model} {s : Shared} {env : Env} {L : Addr} {m : Str → Option Value} {x : Str} {pos : Pos} {v : Value} {Q : Value → Shared → Prop} {A : Around} {E : Value → Shared → Prop} (hL : env.locals = L) (hn : s.heap.Ns L m) (hv : m x = some v) (h : Q v s)
    (hk : env.scope.kind = .function) (hl : env.kindOf x = some .local) (hd : (x == ("__debug__" : Str)) = false) :
    wpAny M A (eval (.Name x pos) env) Q E s := by
  subst hL
  exact wpAny_Name (wpAny_loadName_local hk hl hn hv h) hd
theorem callWithK {M : Model} {A : Around} {E : Value → Shared → Prop} {s : Shared} {i : String} {u x : Addr} {pos : Pos} {env : Env} {e : Expr} {rest : List Expr} {Q : Value → Shared → Prop}
    (h : wpAny M A (spliced (backTo pos (starEach (e :: rest) env))) (fun vs s₁ => KxsAt i u x s₁.heap ∧ wpAny M A (call (.ref u) vs) Q E s₁) E s)
    (he : starEach (e :: rest) env = (false, eval e env) :: starEach rest env := by rfl) (hplain : (backTo pos (starEach rest env)).any (·.1) = false := by rfl) :
    wpAny M A (callWith pos (.ref u) [] (backTo pos (starEach (e :: rest) env)) []) Q E s := by
  rw [he] at h ⊢
  refine kxs_callWith (i := i) (x := x) (by show (false || (backTo pos (starEach rest env)).any (·.1)) = false; rw [hplain]; rfl) ?_
  exact evalArgs_plain h
section
variable {P : Program} {w : World} {A : Around} {E : Value → Shared → Prop} {R : Result → Shared → Prop} {s : Shared} {K : Frag} {mg : Str → Option Value} {C fI : Addr} {cn fn : Str}
theorem e_init (T : ETxt P K mg cn fn C fI) (hfn : fn ≠ "self") (hfd : (fn == ("__debug__" : Str)) = false) (hfs : (fn == ("super" : Str)) = false) (hfc : (fn == ("__class__" : Str)) = false) {x t0 : Addr} {v : Value} {mb : Str → Option Value} (X : K.In s.heap) (hg : s.heap.Ns mainGlobals mg) (hb : s.heap.Ns builtinsNs mb) (hbb : ∀ y : Str, y ≠ "__name__" → mb y = bootBuiltins y)
    (hlim : s.heap.NoLimit) (hx : s.heap.get? x = some (excO C t0)) (hnx : K.lookup x = none) (hroom : A.depth < recursionLimit)
    (hq : ∀ h' tk dx t1, IEnd fn s.heap h' x C dx t1 v → R (.ok (.ret .none)) { s with heap := h', toks := tk }) :
    codeAny (model P w) A (.call (.ref fI) ⟨[.ref x, v], []⟩) R s := by
  obtain ⟨oc, od, params, body, scope, qual, doc, pm, an, cda, cc, ct, osl, p1, p2, a1, a2, a3, a4, a5, a6, b1, b2, b3, b4, j, txt, ccl, cl, cdd, cld, vs, ccs, csl, file, tf, ho, hcd, rfl, rfl, rfl, hbn, ⟨pl, hev⟩, hsw1, hsw2, hcda, hvs, hfile, hcell⟩ := T.fun_
  obtain ⟨nm, q, N, bs, bm, sn, sub, ab, col, dd, k0, k1, k2, k3, k5, hC, hbm⟩ := T.cls
  have hcl : clsIn K C = some { name := nm, bases := bs, mro := .ref C :: bm, ns := N, qualname := q, hasDict := true, slotNames := sn, subclasses := sub, abstract := ab, collection := col, hasDel := false } := by unfold clsIn; rw [hC] <;> rfl
  have hal : alongIn K "__init__" (((Value.ref C :: bm).dropWhile (· != .ref C)).drop 1) = some (some (.builtin "ValueError.__init__")) := by
    have z := T.alo
    unfold ks_superIn at z
    rw [hcl] at z
    exact z
  have hsf : (("self" : Str) == fn) = false := by simpa using fun e => hfn e.symm
  have hfs' : (fn == ("self" : Str)) = false := by simpa using hfn
  have lk_self : List.lookup ("self" : Str) [(("self" : Str), NameKind.local), (fn, .local), ("__class__", .free), ("super", .globalImplicit)] = some .local := by simp [List.lookup]
  have lk_fn : List.lookup fn [(("self" : Str), NameKind.local), (fn, .local), ("__class__", .free), ("super", .globalImplicit)] = some .local := by simp [List.lookup, hfs']
  have e1 : (("super" : Str) == ("self" : Str)) = false := by decide
  have e2 : (("super" : Str) == fn) = false := by
    have z : ¬ fn = "super" := by simpa using hfs
    simpa using fun e => z e.symm
  have e3 : (("super" : Str) == ("__class__" : Str)) = false := by decide
  have e4 : (("__class__" : Str) == ("self" : Str)) = false := by decide
  have e5 : (("__class__" : Str) == fn) = false := by
    have z : ¬ fn = "__class__" := by simpa using hfc
    simpa using fun e => z e.symm
  have lk_super : List.lookup ("super" : Str) [(("self" : Str), NameKind.local), (fn, .local), ("__class__", .free), ("super", .globalImplicit)] = some .globalImplicit := by simp [List.lookup, e1, e2, e3]
  have lk_cls : List.lookup ("__class__" : Str) [(("self" : Str), NameKind.local), (fn, .local), ("__class__", .free), ("super", .globalImplicit)] = some .free := by simp [List.lookup, e4, e5]
  refine ks_codeAny_call_defAt (binds := [("self", .ref x), (fn, v)]) hroom (X _ _ ho) rfl hlim (codeRec_of X hcd) rfl (BindsTo.of_eq ?_) ?_ ?_ (fun h₁ hns k => ?_) rfl rfl rfl
  · exact hbn x v
  · intro y hy
    simp only [List.mem_cons, List.not_mem_nil, or_false] at hy
    rcases hy with rfl | rfl | rfl | rfl <;> exact fun e => nomatch e
  · intro y hy
    simp only [List.mem_cons, List.not_mem_nil, or_false] at hy
    rcases hy with rfl | rfl
    · exact lk_self
    · exact lk_fn
  have X₁ : K.In h₁ := X.keeps k
  have hx₁ := k _ _ hx
  refine ks_wpAt_execs_cons (ks_wpAt_Expr_any (ks_wpAt_MethodCall ?_ (hev _)) rfl (hsw1 _))
  obtain ⟨oD, hD1, hD2⟩ : ∃ oD, h₁.get? C = some oD ∧ oD.data = .cls { name := nm, bases := bs, mro := .ref C :: bm, ns := N, qualname := q, hasDict := true, slotNames := sn, subclasses := sub, abstract := ab, collection := col, hasDel := false } := ⟨_, X₁ _ _ hC, rfl⟩
  have hkg : ∀ b o, s.heap.get? b = some o → h₁.get? b = some o := k
  refine ks_wpAt_super_base lk_super lk_cls (by decide) rfl (X₁ _ _ ho) rfl rfl rfl (X₁ _ _ hcda) rfl hvs hfile T.top ?_
  refine ks_loadName_global rfl lk_super (loadGlobal_builtin (hg.keeps k) T.sup (hb.keeps k) ((hbb _ (by decide +kernel)).trans (by decide +kernel)) ⟨rfl, ?_⟩)
  refine wpAny_loadName_free rfl lk_cls rfl ⟨_, X₁ _ _ hcell, rfl⟩ ?_
  refine wpAny_loadName_local rfl lk_self hns (v := .ref x) (by simp [List.lookup, hsf]) ?_
  refine ks_wpAny_isType_cls hD1 hD2 ⟨rfl, ?_⟩
  refine ks_wpAny_call_super hD1 hD2 hx₁ rfl (fun c e => nomatch e) (looks_mroIn X₁ T.slf) (fun h₂ e k₂ => ?_)
  -- its __init__, bound
  have X₂ : K.In h₂ := X₁.keeps k₂
  have hx₂ := k₂ _ _ hx₁
  have hxC : x ≠ C := fun z => by rw [z, hC] at hnx; cases hnx
  have I₂ : InstAt h₂ x (excO C t0) C none := ⟨hx₂, rfl, rfl, trivial⟩
  refine kxs_getMethod kxs_ValueError e (looks_opaque X₂ T.opq) (l₀ := .ref C :: bm) (fun A Q E s k q => wpAny_bind ((looks_clsIn X₂ hcl) A _ E s k (wpAny_pure q))) rfl X₂ hal (I₂.type.andThen (looks_subIn X₂ T.veC)) hxC (by decide) ?_
  -- the call
  have k₃ : ∀ b o, h₂.get? b = some o → (h₂.push (kxs_mw "ValueError.__init__" x)).get? b = some o := fun b o z => Heap.get?_push_of_some _ z
  have X₃ : K.In (h₂.push (kxs_mw "ValueError.__init__" x)) := X₂.keeps k₃
  have hx₃ := k₃ _ _ hx₂
  have hm₃ : (h₂.push (kxs_mw "ValueError.__init__" x)).get? h₂.objs.size = some (kxs_mw "ValueError.__init__" x) := Heap.get?_push_at rfl rfl
  generalize (h₂.push (kxs_mw "ValueError.__init__" x)) = h₃ at k₃ X₃ hx₃ hm₃ ⊢
  show wpAny _ _ (callWith a5 (.ref h₂.objs.size) [] (backTo a5 (starEach [.Constant (.str txt) j a4] _)) []) _ _ _
  refine callWithK (i := "ValueError.__init__") (x := x) (spliced_cons (Calls.Constant_str (pos := a4) (k := j) (spliced_nil ⟨hm₃, ?_⟩)))
  -- ValueError.__init__ lays the args anew
  refine wpAny_call (codeAny_of_tree ?_)
  show wpAny _ _ (callAny (.ref h₂.objs.size) ⟨_, []⟩) _ _ _
  simp only [callAny]
  refine wpAny_bind (wpAny_load hm₃ ?_)
  simp only [kxs_mw, show (Value.type "method-wrapper" == Value.type "method" || Value.type "method-wrapper" == Value.type "builtin_function_or_method" || Value.type "method-wrapper" == Value.type "method-wrapper") = true by decide, if_true]
  refine KFB.if_so (by decide) ?_
  refine wpAny_bind (check_bound_init F.excBase_ValueError.toExcCallFacts (X₃ _ _ hC) hx₃ rfl ?_)
  refine wpAny_bind (wpAny_pure (wpAny_pure ?_))
  refine ⟨plainId_quiet F.excBase_ValueError.init.plain _, codeAny_builtin F.excBase_ValueError.initEntry ?_⟩
  refine exc_init_tree (cls := .ref C) (t0 := t0) (dv := none) (c2 := .none) (c3 := .none) (b4 := .bool false) hx₃ (by rw [sizeLine_eq]; exact (by decide : 1 ≤ 16777216)) (fun h₄ k₄ hx₄ _ => ?_)
  -- the value is dropped; self.F = F
  have k₁₄ : ∀ b o, b ≠ x → h₁.get? b = some o → h₄.get? b = some o := fun b o hb z => k₄ b o hb (k₃ _ _ (k₂ _ _ z))
  have X₄ : K.In h₄ := fun a o z => k₁₄ a o (fun e => by rw [e, hnx] at z; cases z) (X₁ a o z)
  have hxL : s.heap.objs.size ≠ x := Nat.ne_of_gt (Heap.lt_size hx)
  have hn₄ : h₄.Ns s.heap.objs.size (fun y => List.lookup y ([(("self" : Str), Value.ref x), (fn, v)].reverse)) := by
    obtain ⟨oL, es, ep, hL, r⟩ := hns
    exact ⟨oL, es, ep, k₁₄ _ _ hxL hL, r⟩
  have hsz : s.heap.objs.size < h₁.objs.size := hns.lt
  refine ks_wpAt_execs_cons (ks_wpAt_Assign_Attr (wpAt_of_wpAny ?_) (hsw2 _))
  refine ldK rfl hn₄ (v := v) (by simp [List.lookup]) ?_ rfl lk_fn hfd
  refine ldK rfl hn₄ (v := .ref x) (by simp [List.lookup, hsf]) ?_ rfl lk_self (by decide)
  refine set_plain X₄ (ox := excO C h₃.objs.size) (od := none) ⟨hx₄, rfl, rfl, trivial⟩ T.sa ?_
  refine exc_osa X₄ hx₄ hcl (show refsVE (.ref C :: bm) = true from hbm) rfl T.noN (fun h₅ tk₅ dx k₅ dn dne hx₅ hn₅ => ?_)
  refine wpAt_of_wpAny (wpAny_execs_nil (hq h₅ tk₅ dx _ ⟨fun b o hb z => k₅ b o hb (k₁₄ b o hb (k b o z)), hx₅, ?_, dne, hn₅⟩))
  have z : s.heap.objs.size < h₄.objs.size := hn₄.lt
  exact Nat.le_of_lt (Nat.lt_of_lt_of_le z dn)
/-- a made one -/
structure EMade (fn : Str) (h h' : Heap) (e C d : Addr) (v : Value) : Prop where
  keep : ∀ b o, h.get? b = some o → h'.get? b = some o
  new : h.objs.size ≤ e
  obj : ∃ oe vs, h'.get? e = some oe ∧ oe.cls = .ref C ∧ oe.dict = some d ∧ oe.data = .fields vs ∧ vs[1]? = some .none
  dbig : h.objs.size ≤ d
  dne : d ≠ e
  ns : h'.Ns1 d (fun y => if y = fn then some v else none)
theorem one_size (v : Value) : [v].length ≤ sizeLine := by
  rw [sizeLine_eq]
  exact (by decide : 1 ≤ 16777216)
/-- the field's name -/
structure FnOk (fn : Str) : Prop where
  ns : fn ≠ "self"
  fd : (fn == ("__debug__" : Str)) = false
  fs : (fn == ("super" : Str)) = false
  fc : (fn == ("__class__" : Str)) = false
theorem e_made (T : ETxt P K mg cn fn C fI) (N0 : FnOk fn) {v : Value} {mb : Str → Option Value} (X : K.In s.heap) (hg : s.heap.Ns mainGlobals mg) (hb : s.heap.Ns builtinsNs mb) (hbb : ∀ y : Str, y ≠ "__name__" → mb y = bootBuiltins y) (hlim : s.heap.NoLimit) (hroom : A.depth + 1 < recursionLimit)
    (hq : ∀ h' tk e d, EMade fn s.heap h' e C d v → R (.ok (.ret (.ref e))) { s with heap := h', toks := tk }) :
    codeAny (model P w) A (.call (.ref C) ⟨[v], []⟩) R s := by
  obtain ⟨nm, q, N, bs, bm, sn, sub, ab, col, dd, k0, k1, k2, k3, k5, hC, hbm⟩ := T.cls
  obtain ⟨hp, g, dr, tk, os⟩ := s
  have k : ∀ b o, hp.get? b = some o → ((hp.push (kdv_tup [v])).push (excO C hp.objs.size)).get? b = some o := fun b o e => Heap.get?_push_of_some _ (Heap.get?_push_of_some _ e)
  have hget : ((hp.push (kdv_tup [v])).push (excO C hp.objs.size)).get? (hp.objs.size + 1) = some (excO C hp.objs.size) := by heap_get
  have hnx : K.lookup (hp.objs.size + 1) = none := by
    cases e : K.lookup (hp.objs.size + 1) with
    | none => rfl
    | some o =>
      have z : hp.get? (hp.objs.size + 1) = some o := X _ _ e
      exact absurd (Nat.lt_of_succ_lt (Heap.lt_size z)) (Nat.lt_irrefl _)
  refine call_own F.excBase_ValueError (fun X => refsVE_contains X bm hbm) (X _ _ hC) (looks_findIn X T.iC) (fun self => bind_fn X self T.tC) (one_size v) ?_
  refine e_init (s := ⟨(hp.push (kdv_tup [v])).push (excO C hp.objs.size), g, dr, tk, os⟩) T N0.ns N0.fd N0.fs N0.fc (X.keeps k) (hg.keeps k) (hb.keeps k) hbb (hlim.keeps k) hget hnx ?_ fun h' tk' dx t1 ⟨k', hx, dn, dne, hns⟩ => ?_
  · show A.depth + 1 < recursionLimit
    exact hroom
  · have old : ∀ b o, hp.get? b = some o → h'.get? b = some o := fun b o e => k' b o (Nat.ne_of_lt (Nat.lt_succ_of_lt (Heap.lt_size e))) (k b o e)
    have z : hp.objs.size + 1 + 1 ≤ dx := by
      have q := dn
      rw [Heap.size_push, Heap.size_push] at q
      exact q
    exact ⟨rfl, hq h' tk' (hp.objs.size + 1) dx ⟨old, Nat.le_succ _, ⟨_, _, hx, rfl, rfl, rfl, rfl⟩, Nat.le_trans (Nat.le_trans (Nat.le_succ _) (Nat.le_succ _)) z, dne, hns⟩⟩
end
end ExS
end PySem
namespace Ov
open PySem PySem.Spec PyProof.Rows L2
theorem relO_one {fn : Str} {v : V} {v' : Value} (r : RelV v v') (f : Str) : RelO (List.lookup f [(fn, v)]) (if f = fn then some v' else none) := by
  by_cases hw : f = fn
  · subst hw
    rw [if_pos rfl, show List.lookup f [(f, v)] = some v by simp [List.lookup]]
    exact r
  · rw [if_neg hw, show List.lookup f [(fn, v)] = none by
      have qw : (f == fn) = false := by simpa using hw
      simp [List.lookup, qw]]
    trivial
section
variable {X : Cx} {C fI : Addr} {cn fn : Str}
/-- E(e), E an own error -/
def tMkE (C : Addr) (fn : Str) (ta : TA) : L2.St → Hp → XK → Prop := fun σ H Q => ta σ H fun vs H1 => ∃ v, vs = [v] ∧ ∀ d, H1 d = none → Q (.ref C) (some d) (upd H1 d (.xd [(fn, v)]))
theorem pmk_e {a : Expr} {ta : TA} {p pos : Pos} {k : Nat} (T : PySem.ExS.ETxt X.prog X.K X.mg cn fn C fI) (N0 : PySem.ExS.FnOk fn) (hr : Room k X.A) (ha : PA X [a] ta) (hg : Gl X cn) (hdb : (cn == ("__debug__" : Str)) = false)
    (he : starEach (a :: []) X.env = (false, eval a X.env) :: starEach [] X.env := by rfl) (hpl : (backTo pos (starEach [] X.env)).any (·.1) = false := by rfl) :
    PMk X (.Call (.Name cn p) [a] [] pos) (tMkE C fn ta) := by
  intro pins s σ H Q I h
  refine wpAny_Call_Name_kw (ld_glob I hg T.gC ?_ hdb)
  refine PySem.W.callWith_K (h₀ := X.base) I.ok.mod.kin T.kC (thn (ha.run pos pins s σ H _ I h) fun us s1 hh => ?_) he hpl
  obtain ⟨vs, H1, I1, r1, v, ev, q1⟩ := hh
  subst ev
  refine ⟨I1.kIn, ?_⟩
  cases r1 with
  | cons rv rn =>
    rename_i v' us'
    cases rn
    show wpAny _ _ (call (.ref C) [v']) _ _ _
    have hlim := I1.nolimit
    obtain ⟨mb, hb, hbb⟩ := I1.mod.blt
    have hgl := I1.mod.glob
    have kb := I1.bk
    obtain ⟨hp, g, dr, tk, os⟩ := s1
    refine wpAny_call (PySem.ExS.e_made T N0 I1.kIn (hgl.keeps kb) (hb.keeps kb) hbb hlim (by have := hr.dp; omega) fun h' tk' e d M => ?_)
    show MkP X pins σ Q (.ref e) ⟨h', g, dr, tk', os⟩
    obtain ⟨oe, fv, hoe, hc, hd, hdat, h1⟩ := M.obj
    have hns := M.ns
    obtain ⟨G', g1, g2⟩ := restrict h' fun b => decide (b ≠ e)
    have gk : ∀ b, b ≠ e → G'.get? b = h'.get? b := fun b hb => g1 b (decide_eq_true hb)
    have ge : G'.get? e = none := g2 e (by simp)
    have old : ∀ b o, hp.get? b = some o → G'.get? b = some o := fun b o q => (gk b (Nat.ne_of_lt (Nat.lt_of_lt_of_le (Heap.lt_size q) M.new))).trans (M.keep b o q)
    have ob : ObjOk X.prog X.w (upd H1 d (.xd [(fn, v)])) G' d (.xd [(fn, v)]) :=
      ⟨_, hns.at (fun o q => (gk d M.dne).trans q), fun f => relO_one rv f⟩
    have J : Inv X pins σ (upd H1 d (.xd [(fn, v)])) ⟨G', g, dr, tk', os⟩ := I1.laid (t' := tk') old M.dbig ob
    refine ⟨e, oe, fv, ⟨G', g, dr, tk', os⟩, _, .ref C, some d, rfl, J, fun b o q => ?_, ge, hoe, ⟨hc, hd⟩, hdat, h1, ?_, rfl, I1.bare, raises_own T.exC T.tyC, q1 d (I1.hok.fresh M.dbig)⟩
    · by_cases hb : b = e
      · have q' : G'.get? b = some o := q
        rw [hb, ge] at q'; cases q'
      · exact (gk b hb).symm.trans q
    · rw [upd_ne (Ne.symm M.dne)]
      exact I1.hok.fresh M.new
/-- raise E(e) -/
def tRaiseE (C : Addr) (fn : Str) (W : WX) (ta : TA) : TS := fun _ σ H => tMkE C fn ta σ H fun cls d H' => W cls d σ H'
theorem ps_raiseE {a : Expr} {ta : TA} {W : WX} {p pos pos2 : Pos} {k : Nat} (hc : X.calm = true) (T : PySem.ExS.ETxt X.prog X.K X.mg cn fn C fI) (N0 : PySem.ExS.FnOk fn) (hr : Room k X.A) (tk : Takes X W) (ha : PA X [a] ta) (hg : Gl X cn) (hdb : (cn == ("__debug__" : Str)) = false)
    (he : starEach (a :: []) X.env = (false, eval a X.env) :: starEach [] X.env := by rfl) (hpl : (backTo pos (starEach [] X.env)).any (·.1) = false := by rfl) :
    PS X (.Raise (some (.Call (.Name cn p) [a] [] pos)) none pos2) (tRaiseE C fn W ta) := ps_raise hc tk (pmk_e T N0 hr ha hg hdb he hpl)
/-- isinstance(e, c) and isinstance(e, (c1, c2, ..)), e the exception that the suite holds (at a; its class cls, its dict d) -/
def rIsX (K : PySem.W.Frag) (a : Addr) (cls : Value) (d : Option Addr) : List V → Hp → VK → Prop := fun xs H Q => ∃ (D dd : Addr) (fs : List (Str × V)), cls = .ref D ∧ d = some dd ∧ H dd = some (.xd fs) ∧ ExcC K D ∧
  ((∃ (c : V) (u : Value) (b : Bool), xs = [.ref a, c] ∧ ClsV c u ∧ PySem.W.kitOne K (.ref D) u = some b ∧ Q (.bl b) H) ∨
    ∃ (tp : Addr) (cs : List V) (us : List Value) (b : Bool), xs = [.ref a, .ref tp] ∧ H tp = some (.tup cs) ∧ Paired ClsV cs us ∧ PySem.W.kitAny K (.ref D) us = some b ∧ Q (.bl b) H)
theorem call_isX {a : Addr} {cls : Value} {d : Option Addr} {oe : Obj} {pn : List (Addr × Obj)} (hz : Zc cls d oe) (hf : ∃ vs, oe.data = .fields vs) : CallR (X.suite a ((a, oe) :: pn)) (.builtin "isinstance") (rIsX X.K a cls d) := by
  intro pins s σ H xs us Q I r h
  obtain ⟨D, dd, fs, rfl, rfl, hdd, C, h⟩ := h
  obtain ⟨ha, _⟩ := I.pin (a, oe) (List.mem_append_left _ List.mem_cons_self)
  obtain ⟨vs, hd⟩ := hf
  obtain ⟨mA, hns, _⟩ := (show ObjOk X.prog X.w H s.heap dd (.xd fs) from I.hok dd _ hdd)
  obtain ⟨od, ho, _⟩ := lookIn_ns hns
  have J : PySem.W.InstAt s.heap a oe D (some od) := ⟨ha, hz.1, by unfold PySem.W.notCls; rw [hd] <;> rfl, by rw [hz.2]; exact ho⟩
  have hcl : (PySem.W.clsIn X.K D).isSome = true := by
    have z := C.hd
    unfold PySem.W.hasDictIn at z
    obtain ⟨cd, hcd, _⟩ := PySem.W.any_some z
    rw [hcd]
    rfl
  have Z := PySem.W.kitx_exc (x := a) (ox := oe) (od := some od) hcl C.hg C.hk C.hs C.ha C.hn C.ht C.hm
  rcases h with ⟨c, u, b, rfl, hc, e, q⟩ | ⟨tp, cs, ws, b, rfl, hT, k, e, q⟩
  · obtain ⟨u1, u2, rfl, r1, r2⟩ := vals2 r
    have e1 : u1 = .ref a := r1
    subst e1
    have e2 := hc.eq r2
    subst e2
    exact PySem.W.kia_one Z I.kIn J e (fun z => nomatch z) fun tk => ⟨.bl b, H, I.tok tk, rfl, q⟩
  · obtain ⟨u1, u2, rfl, r1, r2⟩ := vals2 r
    have e1 : u1 = .ref a := r1
    subst e1
    cases (show u2 = Value.ref tp from r2)
    obtain ⟨_, its, rv, o, h1, h2, n, h3⟩ := (show ObjOk X.prog X.w H s.heap tp (.tup cs) from I.hok tp _ hT)
    have e3 := ClsV.all k rv
    subst e3
    obtain ⟨oc, od', dt, sl⟩ := o
    simp only at h2 h3
    subst h2 h3
    exact PySem.W.kia_tup Z I.kIn J h1 e (fun z => nomatch z) fun tk => ⟨.bl b, H, I.tok tk, rfl, q⟩
end
/-- a constant of the module -/
theorem pe_gs {X : Cx} {x : Str} {v : V} {pos : Pos} (hg : Gl X x) (hm : ∃ u, X.mg x = some u ∧ RelV v u) (hd : (x == ("__debug__" : Str)) = false := by decide) : PE X (.Name x pos) (tC v) := by
  obtain ⟨u, hm, r⟩ := hm
  exact pe_glob hg hm r hd
section
variable {X : Cx} {k : Nat} {x : Str} {ps : List Str} {sp : Sp} {p pos : Pos} {e : Expr} {es : List Expr} {t : TA}
/-- a def that may raise, called where what it raises is let out | caught -/
theorem pe_fnX {E : XK} (c : Cal X.prog X.w X.K X.mg X.base (L2.CX X.prog X.w) k x ps sp) (hr : Room k X.A) (hx : Passes (L2.CX X.prog X.w) X E) (hg : Gl X x) (ha : PA X (e :: es) t) (hdb : (x == ("__debug__" : Str)) = false := by decide)
    (he : starEach (e :: es) X.env = (false, eval e X.env) :: starEach es X.env := by rfl) (hpl : (backTo pos (starEach es X.env)).any (·.1) = false := by rfl) : PE X (.Call (.Name x p) (e :: es) [] pos) (tCall sp [] E t) := by
  obtain ⟨f, fd, F, m, kp, b⟩ := c
  exact pe_call F hr hg m kp b .nil hx ha hdb he hpl
theorem pe_fnS {W : WX} (c : Cal X.prog X.w X.K X.mg X.base (L2.CX X.prog X.w) k x ps sp) (hr : Room k X.A) (tk : Takes X W) (hg : Gl X x) (ha : PA X (e :: es) t) (hdb : (x == ("__debug__" : Str)) = false := by decide)
    (he : starEach (e :: es) X.env = (false, eval e X.env) :: starEach es X.env := by rfl) (hpl : (backTo pos (starEach es X.env)).any (·.1) = false := by rfl) : PE X (.Call (.Name x p) (e :: es) [] pos) (tCallS sp (WE W) t) := by
  obtain ⟨f, fd, F, m, kp, b⟩ := c
  exact pe_callS F hr hg m kp b (fun σ => passAt tk σ) ha hdb he hpl
end
end Ov

set_option Elab.async false
set_option linter.all false
set_option maxRecDepth 100000
/-! {**d, k: v} and {**d, **e}, at the library's level -/
namespace PySem
namespace Dst
open Sem (wp)
section
variable {prog : Program} {w : World} {K : Type} [DecidableEq K] {knd : KeyKind prog w K} {A : Around} {E : Value → Shared → Prop} {s : Shared}
theorem dictPut_pairs {d : Addr} {kvs : List (K × Value)} {k : K} {key v : Value} {Q : Unit → Shared → Prop} (hkey : knd.is k key = true) (hm : s.heap.DictOf knd d kvs)
    (hQ : ∀ h', h'.DictOf knd d (stored kvs k v) → Heap.SameBut d s.heap h' → Q () { s with heap := h' })
    (hsz : kvs.length ≤ sizeLine) : wpAny (model prog w) A (dictPut d (knd.hash k) key v) Q E s := by
  obtain ⟨o, es, ep, ho, hc, hd, hk, hp, hn⟩ := hm
  have hes : es.size ≤ sizeLine := by
    have e1 := hp.length
    have e2 : es.toList.length = es.size := by simp
    omega
  unfold dictPut
  refine wpAny_bind (wpAny_dictFind_of hkey ho hd hk ?_)
  have hidx : (es.findIdx? fun e => knd.is k e.key) = kvs.findIdx? fun kv => decide (kv.1 = k) := by
    rw [← hp.findIdx k]; obtain ⟨l⟩ := es; simp
  cases hi : es.findIdx? fun e => knd.is k e.key with
  | some i =>
    refine wpAny_updateDict ho hd (hQ _ ⟨_, _, ep, Heap.get?_update_self _ ho (Obj.isFreed_of_dict (Obj.data_mapDict hd _)), hc.mapDict _, Obj.data_mapDict hd _, hk.modify _ _, ?_, ?_⟩ (Heap.SameBut.update ..))
    · rw [stored, if_pos (any_of_findIdx_some (hidx ▸ hi))]
      have hl : (es.toList.findIdx? fun e => knd.is k e.key) = some i := by rw [← hi]; obtain ⟨l⟩ := es; simp
      have := hp.modify hn hl v
      obtain ⟨l⟩ := es
      simpa using this
    · rw [stored, if_pos (any_of_findIdx_some (hidx ▸ hi)), keys_map_store]; exact hn
  | none =>
    have hnot : k ∉ kvs.map (·.1) := not_mem_of_findIdx_none (hidx ▸ hi)
    have hany : ¬ (kvs.any fun kv => decide (kv.1 = k)) = true := by
      rw [List.any_eq_true]; rintro ⟨kv, hkv, he⟩
      exact hnot (List.mem_map.mpr ⟨kv, hkv, of_decide_eq_true he⟩)
    refine wpAny_updateDictKeys (hz := hes) ho hd (hQ _ ⟨_, _, ep + 1, Heap.get?_update_self _ ho (Obj.isFreed_of_dict (Obj.data_mapDictKeys hd _)), hc.mapDictKeys _, Obj.data_mapDictKeys hd _, hk.push hkey _, ?_, ?_⟩ (Heap.SameBut.update ..))
    · rw [stored, if_neg hany]
      have := hp.append hkey (knd.hash k) v
      obtain ⟨l⟩ := es
      simpa using this
    · rw [stored, if_neg hany, List.map_append, List.nodup_append]
      refine ⟨hn, by simp, ?_⟩
      intro a ha b hb
      simp only [List.map_cons, List.map_nil, List.mem_singleton] at hb
      subst hb
      exact fun e => hnot (e ▸ ha)

theorem merge_dict {d o : Addr} {kvs more : List (K × Value)} {Q : Unit → Shared → Prop} (hdo : d ≠ o) (hoS : (o == sysModules) = false)
    (hnr : ∀ k v, knd.is k v = true → ∀ a, v ≠ .ref a)
    (hd : s.heap.DictOf knd d kvs) (ho : s.heap.DictOf knd o more)
    (hQ : ∀ h', h'.DictOf knd d (merged kvs more) → Heap.SameBut d s.heap h' → Q () { s with heap := h' })
    (hsz : kvs.length + more.length ≤ sizeLine) : wpAny (model prog w) A (mergeMapping d (.ref o) false) Q E s := by
  obtain ⟨od, esd, epd, hod, hcd, hdd, hkd, hpd, hnd⟩ := id hd
  obtain ⟨oo, eso, epo, hoo, hco, hdo', hko, hpo, hno⟩ := id ho
  have hlen : more.length = eso.size := by rw [← hpo.length]; simp
  unfold mergeMapping
  refine wpAny_bind (wpAny_isInstance ho.typeIs isSubtype_dict_dict ?_)
  simp only [if_true]
  refine wpAny_bind (wpAny_specialOf ho.typeIs F.slot_dict_iter.lookup ?_)
  simp only [beq_self_eq_true]
  refine wpAny_bind (wpAny_pure ?_)
  simp only
  rw [if_neg (by rw [hoS]; exact Bool.false_ne_true)]
  refine wpAny_bind (wpAny_dictEntries hod hdd ?_)
  have loop : wpAny (model prog w) A (do
      let l ← dictEntries o
      let epoch ← dictEpoch o
      forIn (List.range l.size) PUnit.unit fun i (_ : PUnit) => (do
          let l' ← dictEntries o
          match l'[i]? with
            | some e => do
              holding [e.key, e.val]
                  (if false = true then do
                    let q ← dictFind d e.key e.hash
                    if q.isSome = true then do
                        rule "dict.merge.duplicate-key"
                        let x ← newExc (Value.type "KeyError") [e.key]
                        raiseNew x
                        dictPut d e.hash e.key e.val
                      else dictPut d e.hash e.key e.val
                  else dictPut d e.hash e.key e.val)
              let ep' ← dictEpoch o
              if (ep' != epoch) = true then do
                  (unsupported "dict.changed-during-merge" : Sem PUnit)
                  pure (ForInStep.yield PUnit.unit)
                else pure (ForInStep.yield PUnit.unit)
            | _ => do
              (unsupported "dict.changed-during-merge" : Sem PUnit)
              pure (ForInStep.yield PUnit.unit) : Sem (ForInStep PUnit))
      pure ()) Q E s := by
    refine wpAny_bind (wpAny_dictEntries hoo hdo' ?_)
    refine wpAny_bind (wpAny_dictEpoch hoo hdo' ?_)
    refine wpAny_bind ?_
    rw [List.range_eq_range']
    refine wpAny_forIn_list _
      (fun rest _ s' => ∃ h' i, s' = { s with heap := h' } ∧ rest = List.range' i (eso.size - i) ∧ i ≤ eso.size ∧ h'.DictOf knd d (merged kvs (more.take i)) ∧ h'.get? o = some oo ∧ Heap.SameBut d s.heap h')
      _ ?_ ?_ _ _ ⟨s.heap, 0, rfl, by simp, Nat.zero_le _, by simpa [merged] using hd, hoo, Heap.SameBut.refl _ _⟩
    · rintro x rest b s' ⟨h', i, rfl, hr, hi, hd', hoo', hs'⟩
      have hlt : i < eso.size := by
        rcases Nat.lt_or_ge i eso.size with h | h
        · exact h
        · rw [Nat.sub_eq_zero_of_le h] at hr; simp at hr
      obtain ⟨rfl, hrest⟩ : x = i ∧ rest = List.range' (i + 1) (eso.size - (i + 1)) := by
        have e : eso.size - i = (eso.size - (i + 1)) + 1 := by omega
        rw [e, List.range'_succ] at hr
        injection hr with h1 h2
        exact ⟨h1, h2⟩
      refine wpAny_bind (wpAny_dictEntries hoo' hdo' ?_)
      rw [Array.getElem?_eq_getElem hlt]
      obtain ⟨kv, hkv⟩ : ∃ kv, more[x]? = some kv := ⟨more[x]'(by rw [hlen]; exact hlt), List.getElem?_eq_getElem _⟩
      obtain ⟨k, v⟩ := kv
      obtain ⟨hkey, hval⟩ := hpo.get? (e := eso[x]) (by simp [hlt]) hkv
      obtain ⟨k', hkey', hhash⟩ := hko eso[x] (Array.getElem_mem hlt)
      obtain rfl : k' = k := knd.inj _ _ _ hkey' hkey
      show wpAny _ _ (holding [eso[x].key, eso[x].val] (if false = true then _ else dictPut d eso[x].hash eso[x].key eso[x].val) >>= _) _ _ _
      rw [if_neg Bool.false_ne_true, hhash, hval]
      have hmx : (merged kvs (more.take x)).length ≤ sizeLine := by
        have e1 := merged_length_le kvs (more.take x)
        have e2 : (more.take x).length ≤ more.length := by rw [List.length_take]; omega
        omega
      refine wpAny_bind (wpAny_holding (dictPut_pairs (hsz := hmx) hkey hd' fun h'' hd'' hs'' => ?_))
      have hoo'' : h''.get? o = some oo := (hs''.2 o (Ne.symm hdo)).trans hoo'
      refine wpAny_bind (wpAny_dictEpoch hoo'' hdo' ?_)
      rw [if_neg (by simp)]
      exact wpAny_pure ⟨h'', x + 1, rfl, hrest, hlt, by rw [merged_take_succ kvs more x (k', v) hkv]; exact hd'', hoo'', hs'.trans hs''⟩
    · rintro b s' ⟨h', i, rfl, hr, hi, hd', hoo', hs'⟩
      have hin : i = eso.size := by
        rcases Nat.lt_or_ge i eso.size with h | h
        · have e : eso.size - i = (eso.size - (i + 1)) + 1 := by omega
          rw [e, List.range'_succ] at hr; exact nomatch hr
        · exact Nat.le_antisymm hi h
      refine wpAny_pure (hQ h' ?_ hs')
      rw [hin, ← hlen, List.take_length] at hd'; exact hd'
  split
  · refine wpAny_bind (wpAny_dictEntries hoo hdo' ?_)
    refine wpAny_bind ?_
    rw [← Array.forIn_toList]
    refine wpAny_forIn_list _ (fun rest _ s' => s' = s ∧ ∀ e ∈ rest, e ∈ eso.toList) _ ?_ ?_ _ _ ⟨rfl, fun _ h => h⟩
    · rintro e rest b s' ⟨rfl, hm⟩
      obtain ⟨k, hkey, _⟩ := hko e (Array.mem_toList_iff.mp (hm e List.mem_cons_self))
      have hr := hnr k _ hkey
      split
      · rename_i a ha
        exact absurd ha (hr a)
      · exact wpAny_pure ⟨rfl, fun x hx => hm x (List.mem_cons_of_mem _ hx)⟩
    · rintro b s' ⟨rfl, _⟩
      exact loop
  · exact loop

theorem disp_kv {a k v : Sem Value} {Q : Value → Shared → Prop}
    (h : wpAny (model prog w) A a (fun m s1 => wpAny (model prog w) A (mergeMapping s.heap.objs.size m false) (fun _ s2 => wpAny (model prog w) A (subDict [(k, v)]) (fun sub s3 =>
      wpAny (model prog w) A (mergeMapping s.heap.objs.size (.ref sub) false) (fun _ s4 => Q (.ref s.heap.objs.size) s4) (fun _ _ => False) s3) E s2) (fun _ _ => False) s1) E
      { s with heap := s.heap.push { cls := .type "dict", data := .dict #[] } }) :
    wpAny (model prog w) A (dictDisplay [(none, a), (some k, v)]) Q E s := by
  unfold dictDisplay
  dsimp only
  rw [List.forIn_cons]
  refine wpAny_bind (wpAny_bind ?_)
  dsimp only
  rw [if_pos (by rfl)]
  refine wpAny_bind (wpAny_pure ?_)
  dsimp only
  refine wpAny_bind (wpAny_alloc ?_)
  refine wpAny_bind (wpAny_holding (wpAny_mono h (fun m s1 h1 => ?_) fun _ _ e => e))
  refine wpAny_bind (wpAny_onRaise (wpAny_tryCatch (wpAny_onRaise (wpAny_holding (wpAny_mono h1 (fun _ s2 h2 => ?_) fun _ _ e => e.elim)))))
  refine wpAny_pure ?_
  dsimp only
  rw [List.forIn_cons]
  refine wpAny_bind ?_
  dsimp only
  rw [if_neg (fun z => nomatch z)]
  refine wpAny_pure ?_
  dsimp only
  rw [List.forIn_nil]
  refine wpAny_pure ?_
  dsimp only
  refine wpAny_bind ?_
  rw [if_neg (fun z => nomatch z)]
  refine wpAny_bind (wpAny_holding (wpAny_mono h2 (fun sub s3 h3 => ?_) fun _ _ e => e))
  refine wpAny_bind (wpAny_onRaise (wpAny_holding (wpAny_mono h3 (fun _ s4 h4 => ?_) fun _ _ e => e.elim)))
  refine wpAny_pure ?_
  dsimp only
  exact wpAny_pure h4

theorem disp_dd {a b : Sem Value} {Q : Value → Shared → Prop}
    (h : wpAny (model prog w) A a (fun m s1 => wpAny (model prog w) A (mergeMapping s.heap.objs.size m false) (fun _ s2 => wpAny (model prog w) A b (fun m2 s3 =>
      wpAny (model prog w) A (mergeMapping s.heap.objs.size m2 false) (fun _ s4 => Q (.ref s.heap.objs.size) s4) (fun _ _ => False) s3) E s2) (fun _ _ => False) s1) E
      { s with heap := s.heap.push { cls := .type "dict", data := .dict #[] } }) :
    wpAny (model prog w) A (dictDisplay [(none, a), (none, b)]) Q E s := by
  unfold dictDisplay
  dsimp only
  rw [List.forIn_cons]
  refine wpAny_bind (wpAny_bind ?_)
  dsimp only
  rw [if_pos (by rfl)]
  refine wpAny_bind (wpAny_pure ?_)
  dsimp only
  refine wpAny_bind (wpAny_alloc ?_)
  refine wpAny_bind (wpAny_holding (wpAny_mono h (fun m s1 h1 => ?_) fun _ _ e => e))
  refine wpAny_bind (wpAny_onRaise (wpAny_tryCatch (wpAny_onRaise (wpAny_holding (wpAny_mono h1 (fun _ s2 h2 => ?_) fun _ _ e => e.elim)))))
  refine wpAny_pure ?_
  dsimp only
  rw [List.forIn_cons]
  refine wpAny_bind ?_
  dsimp only
  rw [if_pos (by rfl)]
  refine wpAny_bind (wpAny_pure ?_)
  dsimp only
  refine wpAny_bind (wpAny_pure ?_)
  refine wpAny_bind (wpAny_holding (wpAny_mono h2 (fun m2 s3 h3 => ?_) fun _ _ e => e))
  refine wpAny_bind (wpAny_onRaise (wpAny_tryCatch (wpAny_onRaise (wpAny_holding (wpAny_mono h3 (fun _ s4 h4 => ?_) fun _ _ e => e.elim)))))
  refine wpAny_pure ?_
  dsimp only
  rw [List.forIn_nil]
  refine wpAny_pure ?_
  dsimp only
  refine wpAny_bind ?_
  rw [if_pos (by rfl)]
  refine wpAny_pure ?_
  dsimp only
  exact wpAny_pure h4
end
end Dst
end PySem
namespace Ov
open PySem PySem.Spec PyProof.Rows L2
theorem kv_noref {P : Program} {w : World} : ∀ k v, (mixKind P w).is k v = true → ∀ a, v ≠ .ref a := fun k v h a e => by
  rw [e] at h
  rcases keyIs_shape h with ⟨i, t, _, q⟩ | ⟨x, t, _, q⟩ <;> cases q
theorem dictOf_nodup {P : Program} {w : World} {h : Heap} {d : Addr} {kvs : List (Key × Value)} (x : h.DictOf (mixKind P w) d kvs) : (kvs.map (·.1)).Nodup := let ⟨_, _, _, _, _, _, _, _, n⟩ := x; n
section
variable {X : Cx} {pos : Pos}
/-- a value of a display -/
theorem pe_val {e : Expr} {te : TE} (h : PE X e te) {pins : List (Addr × Obj)} {s : Shared} {σ : L2.St} {H : Hp} {Q : VK} (I : Inv X pins σ H s) (q : te σ H Q) :
    wpAny (model X.prog X.w) X.A (do let x ← eval e X.env; standAt pos; pure x) (EP X pins σ Q) X.xe s :=
  wpAny_bind (thn (h.run pins s σ H _ I q) fun u s1 z => wpAny_bind (wpAny_standAt (wpAny_pure z)))
/-- the source of ** -/
def DSrc (H : Hp) (x : V) (p : Addr) (kvs : List (Key × V)) : Prop := ∃ o, x = .ref o ∧ Rd H o (.dK kvs) ∧ o ≠ p
/-- {**d, k: v} -/
def tStarKV (td tk tv : TE) : TE := fun σ H Q => ∀ p, H p = none → td σ (upd H p (.dK [])) fun x H1 => ∃ kvs, DSrc H1 x p kvs ∧ H1 p = some (.dK []) ∧ kvs.length < sizeLine ∧
  ∀ q, upd H1 p (.dK kvs) q = none → tk σ (upd (upd H1 p (.dK kvs)) q (.dK [])) fun y H2 => tv σ H2 fun z H3 => ∃ k, y = kV k ∧ H3 p = some (.dK kvs) ∧ H3 q = some (.dK []) ∧ p ≠ q ∧
    Q (.ref p) (upd (upd H3 q (.dK [(k, z)])) p (.dK (putK kvs k z)))
theorem star_merge {pins : List (Addr × Obj)} {σ : L2.St} {H : Hp} {s : Shared} {x : V} {u : Value} {p : Addr} {kvs acc : List (Key × V)} {Q : Unit → Shared → Prop} {E : Value → Shared → Prop} (I : Inv X pins σ H s) (d : DSrc H x p kvs) (r : RelV x u) (hp : H p = some (.dK acc)) (hl : acc.length + kvs.length ≤ sizeLine)
    (h : ∀ s', Inv X pins σ (upd H p (.dK (mergeK acc kvs))) s' → Q () s') : wpAny (model X.prog X.w) X.A (mergeMapping p u false) Q E s := by
  obtain ⟨o, rfl, ho, hne⟩ := d
  obtain rfl : u = Value.ref o := r
  obtain ⟨z, hd, vs, rel, dd⟩ := dk_rd I.hok ho
  obtain ⟨zp, hdp, vp, relp, dp⟩ := dk_of I.hok hp
  refine PySem.Dst.merge_dict (Ne.symm hne) hd kv_noref dp dd (fun h' dd' hs => h { s with heap := h' } ?_) (by rw [← rel.length, ← relp.length]; exact hl)
  have he : ∃ q, h'.get? p = some q := let ⟨q, _, _, hq, _⟩ := dd'; ⟨q, hq⟩
  have hm : (mergeK acc kvs).length ≤ sizeLine := Nat.le_trans (length_mergeK kvs acc) hl
  exact d_write (t' := s.toks) I (by rw [hp]; exact True.intro) hs he (dk_new hm hdp (rel.merge relp) dd')
theorem mergeK_append : ∀ (more acc : List (Key × V)), ((acc ++ more).map (·.1)).Nodup → mergeK acc more = acc ++ more
  | [], acc, _ => (List.append_nil acc).symm
  | kv :: rest, acc, hn => by
    have hfresh : valV acc kv.1 = none := by
      cases q : valV acc kv.1 with
      | none => rfl
      | some x =>
        exfalso
        have a := valV_any kv.1 acc
        rw [q] at a
        obtain ⟨y, hy, he⟩ := List.any_eq_true.mp a
        rw [List.map_append, List.map_cons, List.nodup_append] at hn
        exact hn.2.2 y.1 (List.mem_map.mpr ⟨y, hy, rfl⟩) kv.1 List.mem_cons_self (of_decide_eq_true he)
    show mergeK (putK acc kv.1 kv.2) rest = _
    rw [putK_new _ hfresh, mergeK_append rest (acc ++ [(kv.1, kv.2)]) (by simpa using hn)]
    simp
theorem mergeK_nil {kvs : List (Key × V)} (hn : (kvs.map (·.1)).Nodup) : mergeK [] kvs = kvs := by
  simpa using mergeK_append kvs [] (by simpa using hn)
theorem rd_nodup {pins : List (Addr × Obj)} {σ : L2.St} {H : Hp} {s : Shared} {o : Addr} {kvs : List (Key × V)} (I : Inv X pins σ H s) (h : Rd H o (.dK kvs)) : (kvs.map (·.1)).Nodup := by
  obtain ⟨z, hd, vs, rel, dd⟩ := dk_rd I.hok h
  rw [rel.keys]
  exact dictOf_nodup dd
theorem pe_starKV {a k v : Expr} {td tk tv : TE} (ha : PE X a td) (hk : PE X k tk) (hv : PE X v tv) : PE X (.Dict [none, some k] [a, v] pos) (tStarKV td tk tv) := by
  refine ⟨fun pins s σ H Q I h => ?_⟩
  rw [arm_eval_Dict]
  refine wpAny_bind (wpAny_standAt ?_)
  show wpAny _ _ (dictDisplay [(none, do let x ← eval a X.env; standAt pos; pure x), (some (eval k X.env), do let x ← eval v X.env; standAt pos; pure x)]) _ _ _
  have hn := I.hok.fresh (Nat.le_refl s.heap.objs.size)
  have I1 := I.laid (a := s.heap.objs.size) (o := .dK []) (h' := s.heap.push { cls := .type "dict", data := .dict #[] }) (t' := s.toks) (fun _ _ q => Heap.get?_push_of_some _ q) (Nat.le_refl _) (dk_empty s.heap I.big)
  refine PySem.Dst.disp_kv (thn (pe_val ha I1 (h _ hn)) fun m s1 ⟨x, H1, I1', rx, kvs, hd, hp, hl, q1⟩ => ?_)
  refine star_merge I1' hd rx hp (by rw [List.length_nil]; omega) fun s2 I2 => ?_
  obtain ⟨o, rfl, ho, hne⟩ := id hd
  rw [mergeK_nil (rd_nodup I1' ho)] at I2
  have hn2 := I2.hok.fresh (Nat.le_refl s2.heap.objs.size)
  have I3 := I2.laid (a := s2.heap.objs.size) (o := .dK []) (h' := s2.heap.push { cls := .type "dict", data := .dict #[] }) (t' := s2.toks) (fun _ _ q => Heap.get?_push_of_some _ q) (Nat.le_refl _) (dk_empty s2.heap I2.big)
  refine PySem.wpAny_subDict (knd := mixKind X.prog X.w) (show 1 ≤ 15 by decide) ?_
  refine PySem.evalPairs_cons (thn (hk.run pins _ σ _ _ I3 (q1 _ hn2)) fun ku s3 ⟨y, H3, I3', ry, q3⟩ => thn (pe_val hv I3' q3) fun vu s4 ⟨z, H4, I4, rz, key, ek, hp4, hq4, hpq, q4⟩ => PySem.evalPairs_nil ?_)
  subst ek
  obtain ⟨zq, hdq, vq, relq, dq⟩ := dk_of I4.hok hq4
  cases relq
  refine ⟨[(key, vu)], ⟨kV_is ry, rfl, True.intro⟩, dq, fun h' dd' hs => ?_⟩
  have he : ∃ q, h'.get? s2.heap.objs.size = some q := let ⟨q, _, _, hq, _⟩ := dd'; ⟨q, hq⟩
  have I5 : Inv X pins σ (upd H4 s2.heap.objs.size (.dK [(key, z)])) { s4 with heap := h', toks := s4.toks + 1 } :=
    d_write I4 (by rw [hq4]; exact True.intro) hs he (dk_new (by rw [sizeLine_eq]; show 1 ≤ 16777216; decide) hdq (.cons ⟨rfl, rz⟩ .nil) dd')
  refine star_merge (kvs := [(key, z)]) (acc := kvs) I5 ⟨_, rfl, .inl upd_same, Ne.symm hpq⟩ rfl (by rw [upd_ne hpq]; exact hp4) (by show kvs.length + 1 ≤ _; omega) fun s6 I6 => ?_
  exact ⟨.ref s.heap.objs.size, _, I6, rfl, q4⟩
/-- {**d, **e} -/
def tStar2 (td te : TE) : TE := fun σ H Q => ∀ p, H p = none → td σ (upd H p (.dK [])) fun x H1 => ∃ kvs, DSrc H1 x p kvs ∧ H1 p = some (.dK []) ∧ kvs.length ≤ sizeLine ∧
  te σ (upd H1 p (.dK kvs)) fun y H2 => ∃ more, DSrc H2 y p more ∧ H2 p = some (.dK kvs) ∧ kvs.length + more.length ≤ sizeLine ∧ Q (.ref p) (upd H2 p (.dK (mergeK kvs more)))
theorem pe_star2 {a b : Expr} {td te : TE} (ha : PE X a td) (hb : PE X b te) : PE X (.Dict [none, none] [a, b] pos) (tStar2 td te) := by
  refine ⟨fun pins s σ H Q I h => ?_⟩
  rw [arm_eval_Dict]
  refine wpAny_bind (wpAny_standAt ?_)
  show wpAny _ _ (dictDisplay [(none, do let x ← eval a X.env; standAt pos; pure x), (none, do let x ← eval b X.env; standAt pos; pure x)]) _ _ _
  have hn := I.hok.fresh (Nat.le_refl s.heap.objs.size)
  have I1 := I.laid (a := s.heap.objs.size) (o := .dK []) (h' := s.heap.push { cls := .type "dict", data := .dict #[] }) (t' := s.toks) (fun _ _ q => Heap.get?_push_of_some _ q) (Nat.le_refl _) (dk_empty s.heap I.big)
  refine PySem.Dst.disp_dd (thn (pe_val ha I1 (h _ hn)) fun m s1 ⟨x, H1, I1', rx, kvs, hd, hp, hl, q1⟩ => ?_)
  refine star_merge I1' hd rx hp (by rw [List.length_nil]; omega) fun s2 I2 => ?_
  obtain ⟨o, rfl, ho, hne⟩ := id hd
  rw [mergeK_nil (rd_nodup I1' ho)] at I2
  refine thn (pe_val hb I2 q1) fun m2 s3 ⟨y, H2, I2', ry, more, hd2, hp2, hl2, q2⟩ => ?_
  refine star_merge I2' hd2 ry hp2 hl2 fun s4 I4 => ?_
  exact ⟨.ref s.heap.objs.size, _, I4, rfl, q2⟩
end
end Ov

set_option Elab.async false
set_option linter.all false
set_option maxRecDepth 100000
namespace Ov
open PySem PySem.Spec PyProof.Rows L2
/-! ### the program's own classes: their methods, called by name and by operators -/
/-- the method m of the class at C keeps sp -/
def MCal (P : Program) (w : World) (K : PySem.W.Frag) (mg : Str → Option Value) (base : Heap) (CX : CXT) (k : Nat) (C : Addr) (m : Str) (ps : List Str) (sp : Sp) : Prop :=
  ∃ (f : Addr) (fd : FuncData), FnOk P w K mg base CX k f fd ps sp ∧ Meth K C m f ∧ Binds K fd ps [] ∧ PySem.W.fnIn K f = true
/-- the method m of the class at C stands in the text -/
def MHas (K : PySem.W.Frag) (C : Addr) (m q : Str) (st : Stmt) (ps : List Str) : Prop :=
  ∃ (f : Addr) (fd : FuncData), Fun K m q st f fd ∧ Meth K C m f ∧ PySem.W.fnIn K f = true ∧ ∀ us : List Value, us.length = ps.length → bindArgs fd ⟨us, []⟩ = pure (ps.zip us)
section
variable {P : Program} {w : World} {K : PySem.W.Frag} {mg : Str → Option Value} {base : Heap} {CX : CXT} {C : Addr}
theorem MCal.mono {j k : Nat} {m : Str} {ps : List Str} {sp : Sp} (c : MCal P w K mg base CX j C m ps sp) (h : j ≤ k) : MCal P w K mg base CX k C m ps sp := by
  obtain ⟨f, fd, F, r⟩ := c
  exact ⟨f, fd, F.mono h, r⟩
theorem MHas.ok {m q : Str} {st : Stmt} {N ps : List Str} {k : Nat} {sp : Sp} (h : MHas K C m q st ps) (S : FnScope N ps (defScope st)) (len : ∀ vs H Q E, sp vs H Q E → vs.length = ps.length)
    (hbody : ∀ (f : Addr) (cdv : Value) (A : Around) (outer : List Env) (s : Shared) (H : Hp) (vs : List V) (Q : VK) (E : XK), Room k (A.deeper (envOfC q (defScope st) s.heap.objs.size f cdv)) → sp vs H Q E →
      ∃ t, PSs (cxOf CX0 P w K mg base N q (defScope st) f cdv A outer s H E).nox (defBody st) t ∧ t { nx := fun _ H' => Q .non H', rt := Q } (start N vs) H) : MCal P w K mg base CX0 (k + 1) C m ps sp := by
  obtain ⟨f, fd, F, M, i, b⟩ := h
  exact ⟨f, fd, F.ok S len (fun cdv A outer s H vs Q E hr h => hbody f cdv A outer s H vs Q E hr h), M, .all b, i⟩
theorem MHas.okX {m q : Str} {st : Stmt} {N ps : List Str} {k : Nat} {sp : Sp} (h : MHas K C m q st ps) (S : FnScope N ps (defScope st)) (len : ∀ vs H Q E, sp vs H Q E → vs.length = ps.length)
    (hbody : ∀ (f : Addr) (cdv : Value) (A : Around) (outer : List Env) (s : Shared) (H : Hp) (vs : List V) (Q : VK) (E : XK), Room k (A.deeper (envOfC q (defScope st) s.heap.objs.size f cdv)) → sp vs H Q E →
      ∃ t, PSs (cxOf (L2.CX P w) P w K mg base N q (defScope st) f cdv A outer s H E) (defBody st) t ∧ t { nx := fun _ H' => Q .non H', rt := Q } (start N vs) H) : MCal P w K mg base (L2.CX P w) (k + 1) C m ps sp := by
  obtain ⟨f, fd, F, M, i, b⟩ := h
  exact ⟨f, fd, F.okX S len (fun cdv A outer s H vs Q E hr h => hbody f cdv A outer s H vs Q E hr h), M, .all b, i⟩
end
section
variable {X : Cx} {CX : CXT} {k : Nat} {C : Addr} {m : Str} {ps : List Str} {sp : Sp} {E : XK} {p pos apos : Pos} {o e : Expr} {es : List Expr} {ta : TE} {t : TA}
/-- the callee runs, somewhere below -/
theorem run_at {A : Around} {f : Addr} {fd : FuncData} {pins : List (Addr × Obj)} {σ : L2.St} {H : Hp} {s : Shared} {Q : VK} {us : List Value} {vs : List V} (F : FnOk X.prog X.w X.K X.mg X.base CX k f fd ps sp) (hr : Room k A) (hf : A.frames = X.A.frames) (hb : Binds X.K fd ps []) (hx : Passes CX X E)
    (I : Inv X pins σ H s) (r : Vals vs us) (h : sp vs H Q E) : wpAny (model X.prog X.w) A (call (.ref f) us) (EP X pins σ Q) X.xe s := by
  have hl : us.length = ps.length := by rw [← r.length]; exact F.len _ _ _ _ h
  have e0 : Env0 X.prog X.w X.K X.mg X.base A X.stack s H := by
    have e := I.env0
    exact ⟨by rw [hf]; exact e.frames, e.mod, e.bs, e.bsz, e.funs, e.frf, e.hok, e.bare⟩
  refine wpAny_call (codeAny_mono (F.run A X.stack s H ⟨us, []⟩ us vs Q E hr e0 (by
    have := hb s us I.kIn (by simpa using hl)
    simpa using this) r h) fun r s' hq => ?_)
  cases r with
  | error e => exact hx pins σ H s e s' I hq
  | ok fl =>
    cases fl with
    | ret u => exact I.after hq
    | next => exact False.elim hq
    | brk => exact False.elim hq
    | cont => exact False.elim hq
theorem pe_mth {pl : Sem Bool} (he : PE X o ta) (c : Cls X.K C) (M : MCal X.prog X.w X.K X.mg X.base CX k C m ps sp) (hr : Room k X.A) (hx : Passes CX X E) (ha : PA X (e :: es) t)
    (hst : starEach (e :: es) X.env = (false, eval e X.env) :: starEach es X.env := by rfl) (hpl : (backTo pos (starEach es X.env)).any (·.1) = false := by rfl)
    (ht : eval (.Call (.Attribute o m apos) (e :: es) [] pos) X.env = (do
      let ov ← eval o X.env
      standAt apos.atName
      let (f, first) ← holding [ov] (getMethod ov m pl)
      callWith pos f first (backTo pos (starEach (e :: es) X.env)) (backToKw pos (keywordEach [] X.env))) := by rfl) :
    PE X (.Call (.Attribute o m apos) (e :: es) [] pos) (tMeth C m sp [] E ta t) := by
  obtain ⟨f, fd, F, hm, b, fi⟩ := M
  exact pe_meth he c hm F hr b .nil hx ha hst hpl ht
theorem pe_mth0 {pl : Sem Bool} (he : PE X o ta) (c : Cls X.K C) (M : MCal X.prog X.w X.K X.mg X.base CX k C m ps sp) (hr : Room k X.A) (hx : Passes CX X E)
    (ht : eval (.Call (.Attribute o m apos) [] [] pos) X.env = (do
      let ov ← eval o X.env
      standAt apos.atName
      let (f, first) ← holding [ov] (getMethod ov m pl)
      callWith pos f first (backTo pos (starEach [] X.env)) (backToKw pos (keywordEach [] X.env))) := by rfl) :
    PE X (.Call (.Attribute o m apos) [] [] pos) (tMeth C m sp [] E ta tNil) := by
  obtain ⟨f, fd, F, hm, b, fi⟩ := M
  exact pe_meth0 he c hm F hr b .nil hx ht
/-- C(..) -/
structure MkC (K : PySem.W.Frag) (mg : Str → Option Value) (x : Str) (C : Addr) : Prop where
  makes : PySem.W.makesIn K C = true
  kp : PySem.W.keepIn K (.ref C) = true
  gl : mg x = some (.ref C)
theorem pe_mk0 {x : Str} (M0 : MkC X.K X.mg x C) (M : MCal X.prog X.w X.K X.mg X.base CX k C "__init__" ps sp) (hr : Room (k + 1) X.A) (hx : Passes CX X E) (hg : Gl X x) (hdb : (x == ("__debug__" : Str)) = false := by decide) :
    PE X (.Call (.Name x p) [] [] pos) (tMake C sp [] E tNil) := by
  obtain ⟨f, fd, F, hm, b, fi⟩ := M
  exact pe_make0 ⟨M0.makes, hm.at_, hm.fn, M0.kp⟩ F hr hg M0.gl b .nil hx hdb
theorem pe_mk {x : Str} (M0 : MkC X.K X.mg x C) (M : MCal X.prog X.w X.K X.mg X.base CX k C "__init__" ps sp) (hr : Room (k + 1) X.A) (hx : Passes CX X E) (hg : Gl X x) (ha : PA X (e :: es) t) (hdb : (x == ("__debug__" : Str)) = false := by decide)
    (he : starEach (e :: es) X.env = (false, eval e X.env) :: starEach es X.env := by rfl) (hpl : (backTo pos (starEach es X.env)).any (·.1) = false := by rfl) :
    PE X (.Call (.Name x p) (e :: es) [] pos) (tMake C sp [] E t) := by
  obtain ⟨f, fd, F, hm, b, fi⟩ := M
  exact pe_make ⟨M0.makes, hm.at_, hm.fn, M0.kp⟩ F hr hg M0.gl b .nil hx ha hdb he hpl
/-! by operators -/
/-- o[i] = v -/
def rSetO (C : Addr) (sp : Sp) (E : XK) : TSet := fun o i v H Q => ∃ a dx fs, o = .ref a ∧ H a = some (.ins C dx fs) ∧ sp [.ref a, i, v] H (fun _ H' => Q H') E
theorem set_own (M : MCal X.prog X.w X.K X.mg X.base CX k C "__setitem__" ps sp) (hr : Room k X.A) (hq : PySem.W.noSeq X.K C = true) (hx : Passes CX X E) : PSet X (rSetO C sp E) := by
  intro pins s σ H o i v ov iv u Q I ro ri rv h
  obtain ⟨a, dx, fs, rfl, ha, h⟩ := h
  obtain rfl : ov = Value.ref a := ro
  obtain ⟨f, fd, F, hm, b, fi⟩ := M
  obtain ⟨mA, J, _⟩ := ins_get I.hok ha
  obtain ⟨od, J, _⟩ := J.look
  obtain ⟨mm, hF⟩ := I.fr
  refine PySem.W.ksp_setItem hF I.ok.mod.kin J hq hm.at_ hm.fn ?_
  refine wpAny_mono (run_at (vs := [.ref a, i, v]) F hr rfl b hx I (.cons rfl (.cons ri (.cons rv .nil))) h) (fun r s' z => ?_) fun _ _ x => x
  obtain ⟨_, H', I', _, q⟩ := z
  exact ⟨H', I', q⟩
/-- o[i] -/
def rIxO (C : Addr) (sp : Sp) (E : XK) : R2 := fun o i H Q => ∃ a dx fs, o = .ref a ∧ H a = some (.ins C dx fs) ∧ sp [.ref a, i] H Q E
theorem pe_ixO {a b : Expr} {ta tb : TE} (M : MCal X.prog X.w X.K X.mg X.base CX k C "__getitem__" ps sp) (hr : Room (k + 1) X.A) (hx : Passes CX X E) (ha : PE X a ta) (hb : PE X b tb)
    (hs : ∀ u v, subscripted b true u v = runValue (.builtin "lifetime.subscript" ⟨[u, v], []⟩) := by intro _ _; with_unfolding_all rfl) : PE X (.Subscript a b pos) (tOp (rIxO C sp E) ta tb) := by
  refine ⟨fun pins s σ H Q I h => ?_⟩
  refine Subscript_ (binT ha hb I h fun v u s2 x y H2 I2 rx ry q => ?_)
  obtain ⟨a, dx, fs, rfl, hi, h⟩ := q
  obtain rfl : v = Value.ref a := rx
  obtain ⟨f, fd, F, hm, b, fi⟩ := M
  obtain ⟨mA, J, _⟩ := ins_get I2.hok hi
  obtain ⟨od, J, _⟩ := J.look
  obtain ⟨mm, hF⟩ := I2.fr
  exact PySem.W.sub_K hF I2.ok.mod.kin J hm.at_ fi hm.fn (run_at (A := X.A.in1) (vs := [.ref a, y]) F hr.in1 rfl b hx I2 (.cons rfl (.cons ry .nil)) h) (hs _ _)
/-- x in o, x not in o -/
def rInO (C : Addr) (sp : Sp) (E : XK) (neg : Bool) : R2 := fun x o H Q => ∃ a dx fs, o = .ref a ∧ H a = some (.ins C dx fs) ∧ sp [.ref a, x] H (fun v H' => ∃ b, v = .bl b ∧ Q (.bl (if neg then !b else b)) H') E
theorem op_inO (M : MCal X.prog X.w X.K X.mg X.base CX k C "__contains__" ps sp) (hr : Room k X.A) (hx : Passes CX X E) : OpR X (compareOp .In) (rInO C sp E false) := by
  intro pins s σ H x o xv ov Q I rx ro h
  obtain ⟨a, dx, fs, rfl, ha, h⟩ := h
  obtain rfl : ov = Value.ref a := ro
  obtain ⟨f, fd, F, hm, b, fi⟩ := M
  obtain ⟨mA, J, _⟩ := ins_get I.hok ha
  obtain ⟨od, J, _⟩ := J.look
  obtain ⟨mm, hF⟩ := I.fr
  refine PySem.W.in_K hF I.ok.mod.kin J hm.at_ hm.fn ?_
  refine wpAny_mono (run_at (vs := [.ref a, x]) F hr rfl b hx I (.cons rfl (.cons rx .nil)) h) (fun r s' z => ?_) fun _ _ x => x
  obtain ⟨v, H', I', rv, b', rfl, q⟩ := z
  obtain rfl : r = Value.bool b' := rv
  exact wpAny_truthy_bool ⟨.bl b', H', I', rfl, q⟩
theorem op_notInO (M : MCal X.prog X.w X.K X.mg X.base CX k C "__contains__" ps sp) (hr : Room k X.A) (hx : Passes CX X E) : OpR X (compareOp .NotIn) (rInO C sp E true) := by
  intro pins s σ H x o xv ov Q I rx ro h
  obtain ⟨a, dx, fs, rfl, ha, h⟩ := h
  obtain rfl : ov = Value.ref a := ro
  obtain ⟨f, fd, F, hm, b, fi⟩ := M
  obtain ⟨mA, J, _⟩ := ins_get I.hok ha
  obtain ⟨od, J, _⟩ := J.look
  obtain ⟨mm, hF⟩ := I.fr
  refine PySem.W.notIn_K hF I.ok.mod.kin J hm.at_ hm.fn ?_
  refine wpAny_mono (run_at (vs := [.ref a, x]) F hr rfl b hx I (.cons rfl (.cons rx .nil)) h) (fun r s' z => ?_) fun _ _ x => x
  obtain ⟨v, H', I', rv, b', rfl, q⟩ := z
  obtain rfl : r = Value.bool b' := rv
  exact wpAny_truthy_bool ⟨.bl (!b'), H', I', rfl, q⟩
/-- len(o) -/
def cLenO (C : Addr) (sp : Sp) (E : XK) : List V → Hp → VK → Prop := fun xs H Q => ∃ a dx fs, xs = [.ref a] ∧ H a = some (.ins C dx fs) ∧ sp [.ref a] H (fun v H' => ∃ n : Nat, v = .int n ∧ n ≤ sizeLine ∧ Q (.int n) H') E
theorem call_lenO (M : MCal X.prog X.w X.K X.mg X.base CX k C "__len__" ps sp) (hr : Room (k + 1) X.A) (hx : Passes CX X E) : CallR X (.builtin "len") (cLenO C sp E) := by
  intro pins s σ H xs us Q I r h
  obtain ⟨a, dx, fs, rfl, ha, h⟩ := h
  cases r with
  | cons rv rn =>
    cases rn
    rename_i ov
    obtain rfl : ov = Value.ref a := rv
    obtain ⟨f, fd, F, hm, b, fi⟩ := M
    obtain ⟨mA, J, _⟩ := ins_get I.hok ha
    obtain ⟨od, J, _⟩ := J.look
    obtain ⟨mm, hF⟩ := I.fr
    refine PySem.W.len_K hF I.ok.mod.kin J hm.at_ hm.fn ?_
    refine wpAny_mono (run_at (A := X.A.in1) (vs := [.ref a]) F hr.in1 rfl b hx I (.cons rfl .nil) h) (fun r s' z => ?_) fun _ _ x => x
    obtain ⟨v, H', I', rv, n, rfl, hn, q⟩ := z
    obtain ⟨t, rfl⟩ := rv
    have z := hn
    rw [sizeLine_eq] at z
    exact ⟨by omega, ⟨.int n, H', I'.tok _, ⟨_, rfl⟩, q⟩⟩
/-- e.f, a property -/
structure Prp (P : Program) (w : World) (K : PySem.W.Frag) (mg : Str → Option Value) (base : Heap) (CX : CXT) (k : Nat) (C : Addr) (f : Str) (sp : Sp) : Prop where
  ex : ∃ (p g : Addr) (fd : FuncData) (ps : List Str), PropOf K C f p g ∧ FnOk P w K mg base CX k g fd ps sp ∧ Binds K fd ps []
theorem pe_prp {f : Str} (he : PE X e ta) (c : Cls X.K C) (p : Prp X.prog X.w X.K X.mg X.base CX k C f sp) (hr : Room (k + 1) X.A) (hx : Passes CX X.nox E) (hab : attributeBase e f X.env (eval e X.env) = eval e X.env := by rfl) : PE X (.Attribute e f pos) (tProp C sp [] E ta) := by
  obtain ⟨p, g, fd, ps, hp, F, b⟩ := p.ex
  exact pe_prop he c hp F hr b .nil hx hab
end
end Ov

set_option Elab.async false
set_option linter.all false
set_option maxRecDepth 100000
namespace Ov
open PySem PySem.Spec PyProof.Rows L2
/-! ### operators that meet dicts and empty tuples too -/
def oAddX (K : PySem.W.Frag) : R2 := fun x y H Q => oAdd K x y H Q ∨ rCatA K x y H Q
theorem op_oAddX {X : Cx} : OpR X (binaryOp .Add) (oAddX X.K) := OpR.or op_oAdd op_catA
def rInD (neg : Bool) : R2 := fun y x H Q => ∃ a o, x = .ref a ∧ DGet H a y o ∧ Q (.bl (if neg then !o.isSome else o.isSome)) H
theorem op_inD {X : Cx} (hu : X.A.units + 1 < cLine) : OpR X (compareOp .In) (rInD false) := by
  intro pins s σ H y x v u Q I ry rx h
  obtain ⟨a, o, rfl, g, q⟩ := h
  obtain rfl : u = Value.ref a := rx
  exact d_in hu I g ry fun s3 I3 => ⟨.bl o.isSome, H, I3, rfl, q⟩
theorem op_notInD {X : Cx} (hu : X.A.units + 1 < cLine) : OpR X (compareOp .NotIn) (rInD true) := by
  intro pins s σ H y x v u Q I ry rx h
  obtain ⟨a, o, rfl, g, q⟩ := h
  obtain rfl : u = Value.ref a := rx
  exact d_notIn hu I g ry fun s3 I3 => ⟨.bl (!o.isSome), H, I3, rfl, q⟩
def oInX (K : PySem.W.Frag) : R2 := fun x y H Q => oIn K x y H Q ∨ rInD false x y H Q
def oNotInX (K : PySem.W.Frag) : R2 := fun x y H Q => oNotIn K x y H Q ∨ rInD true x y H Q
theorem op_oInX {X : Cx} (hu : X.A.units + 65 < cLine) : OpR X (compareOp .In) (oInX X.K) := OpR.or (op_oIn hu) (op_inD (by omega))
theorem op_oNotInX {X : Cx} (hu : X.A.units + 65 < cLine) : OpR X (compareOp .NotIn) (oNotInX X.K) := OpR.or (op_oNotIn hu) (op_notInD (by omega))
def rIxD : R2 := fun x y H Q => ∃ a v, x = .ref a ∧ DGet H a y (some v) ∧ Q v H
theorem ix_dict {X : Cx} (hu : X.A.units + 1 < cLine) : IxR X rIxD := by
  intro value slice pins s σ H x y v u Q I rx ry h hs
  obtain ⟨a, w, rfl, g, q⟩ := h
  obtain rfl : v = Value.ref a := rx
  have hT := dict_typeIs I g
  unfold subscriptTail
  refine wpAny_bind ?_
  rw [getitemInPython_of_ne hT.not_modules]
  refine wpAny_bind (wpAny_specialOf hT PySem.F.slot_dict_getitem.lookup ?_)
  have fin : wpAny (model X.prog X.w) X.A (subscripted slice false (.ref a) u) (fun r s₃ => wpAny (model X.prog X.w) X.A (letTemporaryGo value (.ref a) r >>= fun _ => pure r) (EP X pins σ Q) X.xe s₃) X.xe s := by
    rw [hs]
    exact wpAny_operating (wpAny_mono (d_getItem (Q := EP X pins σ Q) hu I g ry fun w' s3 I3 rw' => ⟨w, H, I3, rw', q⟩) (fun r s₃ h₃ => wpAny_bind (wpAny_letTemporaryGo (wpAny_pure h₃))) fun _ _ x => x)
  first
    | exact wpAny_pure (wpAny_bind fin)
    | exact wpAny_bind (wpAny_pure (wpAny_bind fin))
    | exact wpAny_bind fin
theorem IxR.or {X : Cx} {r r' : R2} (a : IxR X r) (b : IxR X r') : IxR X (fun x y H Q => r x y H Q ∨ r' x y H Q) := by
  intro value slice pins s σ H x y v u Q I rx ry h hs
  rcases h with h | h
  · exact a value slice pins s σ H x y v u Q I rx ry h hs
  · exact b value slice pins s σ H x y v u Q I rx ry h hs
def oIxX (K : PySem.W.Frag) : R2 := fun x y H Q => oIx K x y H Q ∨ rIxD x y H Q
theorem ix_oIxX {X : Cx} (hu : X.A.units + 65 < cLine) : IxR X (oIxX X.K) := IxR.or ix_oIx (ix_dict (by omega))
theorem PSet.or {X : Cx} {r r' : TSet} (a : PSet X r) (b : PSet X r') : PSet X (fun o i v H Q => r o i v H Q ∨ r' o i v H Q) := by
  intro pins s σ H o i v ov iv u Q I ro ri rv h
  rcases h with h | h
  · exact a pins s σ H o i v ov iv u Q I ro ri rv h
  · exact b pins s σ H o i v ov iv u Q I ro ri rv h
def rSetX : TSet := fun o i v H Q => rSetL o i v H Q ∨ rSetD o i v H Q
theorem set_X {X : Cx} (hu : X.A.units + 65 < cLine) : PSet X rSetX := PSet.or set_list (set_dict (by omega))
theorem CallR.or {X : Cx} {f : Value} {r r' : List V → Hp → VK → Prop} (a : CallR X f r) (b : CallR X f r') : CallR X f (fun xs H Q => r xs H Q ∨ r' xs H Q) := by
  intro pins s σ H xs us Q I rx h
  rcases h with h | h
  · exact a pins s σ H xs us Q I rx h
  · exact b pins s σ H xs us Q I rx h
def cLenX (K : PySem.W.Frag) : List V → Hp → VK → Prop := fun xs H Q => cLen K xs H Q ∨ ∃ a kvs, xs = [.ref a] ∧ Rd H a (.dK kvs) ∧ Q (.int kvs.length) H
theorem call_cLenX {X : Cx} : CallR X (.builtin "len") (cLenX X.K) := by
  refine CallR.or call_cLen ?_
  intro pins s σ H xs us Q I rx h
  obtain ⟨a, kvs, rfl, e, q⟩ := h
  cases rx with
  | cons rv rn =>
    cases rn
    rename_i u
    obtain rfl : u = Value.ref a := rv
    exact d_len I e fun t s' I' => ⟨.int kvs.length, H, I', ⟨_, rfl⟩, q⟩
def cTupX (K : PySem.W.Frag) : List V → Hp → VK → Prop := fun xs H Q => ∃ p ys, xs = [.ref p] ∧ ((SqL K H p ys ∧ ∀ l, H l = none → Q (.ref l) (upd H l (.tup ys))) ∨ (SqT K H p ys ∧ Q (.ref p) H))
theorem call_cTupX {X : Cx} : CallR X (.type "tuple") (cTupX X.K) := call_tuple_of
def cSortD : List V → Hp → VK → Prop := fun xs H Q => ∃ (a : Addr) (kvs : List (Key × V)) (ks : List Str), xs = [.ref a] ∧ Rd H a (.dK kvs) ∧ kvs.map (·.1) = ks.map Sum.inr ∧ ks.length < 64 ∧
    ∀ ys p, ys.Perm ks → sortedS ys = true → H p = none → Q (.ref p) (upd H p (.lst (ys.map V.str)))
theorem call_cSortD {X : Cx} (hcalm : X.calm = true) : CallR X (.builtin "sorted") cSortD := call_sortedD hcalm
/-! ### fields, constants and properties of an object whose class is known -/
section
variable {X : Cx} {C : Addr} {f : Str} {pos pos' : Pos} {e o value : Expr} {ta tv : TE} {v : V}
def tFldC (C : Addr) (f : Str) (ta : TE) : TE := fun σ H Q => ta σ H fun x H1 => ∃ a dx fs v, x = .ref a ∧ H1 a = some (.ins C dx fs) ∧ fs.lookup f = some v ∧ Q v H1
theorem PE.of {e : Expr} {t u : TE} (h : PE X e t) (k : ∀ σ H Q, u σ H Q → t σ H Q) : PE X e u := ⟨fun pins s σ H Q I q => h.run pins s σ H Q I (k _ _ _ q)⟩
theorem PE.mono {e : Expr} {t : TE} (h : PE X e t) {pins : List (Addr × Obj)} {s : Shared} {σ : L2.St} {H : Hp} {Q Q' : VK} (I : Inv X pins σ H s) (q : t σ H Q) (k : ∀ x H1, Q x H1 → Q' x H1) : wpAny (model X.prog X.w) X.A (eval e X.env) (EP X pins σ Q') X.xe s :=
  thn (h.run pins s σ H Q I q) fun u s1 ⟨x, H1, I1, rx, z⟩ => ⟨x, H1, I1, rx, k _ _ z⟩
theorem pe_fldC (c : Cls X.K C) (n : NoAttr X.K C f) (he : PE X e ta) (hb : attributeBase e f X.env (eval e X.env) = eval e X.env := by rfl) : PE X (.Attribute e f pos) (tFldC C f ta) := by
  refine ⟨fun pins s σ H Q I h => ?_⟩
  refine attr_of hb (thn (he.run pins s σ H _ I h) fun u s1 ⟨x, H1, I1, rx, a, dx, fs, v, ex, ea, l, q⟩ => ?_)
  subst ex
  obtain rfl : u = Value.ref a := rx
  exact getattr_ok I1 ea c n l fun u' s2 I2 ru => ⟨v, H1, I2, ru, q⟩
def sFldC (C : Addr) (f : Str) (ta tv : TE) : TS := fun D σ H => tv σ H fun y H1 => ta σ H1 fun x H2 => ∃ a dx fs, x = .ref a ∧ H2 a = some (.ins C dx fs) ∧ fs.length < 1000 ∧ D.nx σ (upd H2 a (.ins C dx (putF f y fs)))
theorem ps_fldC (c : Cls X.K C) (n : NoAttr X.K C f) (ha : PE X o ta) (hv : PE X value tv) (hs : swapsWith value (some (.Attribute o f pos')) pos.line X.env = pure false := by rfl) : PS X (.Assign [.Attribute o f pos'] value pos) (sFldC C f ta tv) := by
  refine ⟨fun pins s σ H D I h => ?_⟩
  refine plainObj_wpAny_Assign_Attribute (thn (hv.run pins s σ H _ I h) fun u s1 ⟨y, H1, I1, ry, q⟩ => thn (ha.run pins s1 σ H1 _ I1 q) fun ov s2 ⟨x, H2, I2, rx, a, dx, fs, ex, ea, l, q2⟩ => ?_) hs
  subst ex
  obtain rfl : ov = Value.ref a := rx
  exact setattr_ok I2 ea c n l ry fun s3 I3 => ⟨σ, _, I3, q2⟩
theorem pe_cst {mc u : Value} (he : PE X e (tC (.ref C))) (r : ClX.CRead X.K C mc) (k : ClX.CVal X.K C mc f v u) (hb : attributeBase e f X.env (eval e X.env) = eval e X.env := by rfl) : PE X (.Attribute e f pos) (tC v) := by
  refine ⟨fun pins s σ H Q I h => ?_⟩
  refine attr_of hb (thn (he.run pins s σ H (fun x H1 => x = .ref C ∧ Q v H1) I ⟨rfl, h⟩) fun u s1 ⟨x, H1, I1, rx, ex, q⟩ => ?_)
  subst ex
  obtain rfl : u = Value.ref C := rx
  exact ClX.getcval_ok I1 r k fun s2 I2 => ⟨v, H1, I2, k.rel, q⟩
end
/-! ### the methods of objects, as they stand in the text -/
theorem fn_in {K : PySem.W.Frag} {f : Addr} {oc : Value} {od : Option Addr} {fd : FuncData} {osl : Array (Option Value)} (l : K.lookup f = some ⟨oc, od, .func fd, osl⟩) : PySem.W.fnIn K f = true := by
  unfold PySem.W.fnIn
  rw [l]
theorem mhas_mk {K : PySem.W.Frag} {C : Addr} {m q : Str} {st : Stmt} {ps : List Str} {f : Addr} {oc : Value} {od an : Option Addr} {osl : Array (Option Value)} {kV doc pm cdv ct : Value}
    (a : PySem.W.findIn K (.ref C) m = some (some (.ref f))) (ty : PySem.W.isFn K (.ref f) = true) (l : K.lookup f = some ⟨oc, od, .func (PySem.W.fnOf m q (defArgs st) (defBody st) (defScope st) .none kV doc pm an cdv ct), osl⟩)
    (c : PySem.W.codeIn K cdv q = true) (k : PySem.W.keepIn K (.ref f) = true)
    (hb : ∀ (kV doc pm : Value) (an : Option Addr) (cdv ct : Value) (us : List Value), us.length = ps.length → bindArgs (PySem.W.fnOf m q (defArgs st) (defBody st) (defScope st) .none kV doc pm an cdv ct) ⟨us, []⟩ = pure (ps.zip us)) : MHas K C m q st ps :=
  ⟨f, _, fun_mk l c k, ⟨a, ty, k⟩, fn_in l, hb kV doc pm an cdv ct⟩
/-- the getter of a property stands in the text -/
def PHas (K : PySem.W.Frag) (C : Addr) (m q : Str) (st : Stmt) (ps : List Str) : Prop :=
  ∃ (p g : Addr) (fd : FuncData), PropOf K C m p g ∧ Fun K m q st g fd ∧ ∀ us : List Value, us.length = ps.length → bindArgs fd ⟨us, []⟩ = pure (ps.zip us)
theorem phas_mk {K : PySem.W.Frag} {C : Addr} {m q : Str} {st : Stmt} {ps : List Str} {p g : Addr} {oc : Value} {od an : Option Addr} {osl : Array (Option Value)} {kV doc pm cdv ct : Value}
    (a : PropOf K C m p g) (l : K.lookup g = some ⟨oc, od, .func (PySem.W.fnOf m q (defArgs st) (defBody st) (defScope st) .none kV doc pm an cdv ct), osl⟩)
    (c : PySem.W.codeIn K cdv q = true) (k : PySem.W.keepIn K (.ref g) = true)
    (hb : ∀ (kV doc pm : Value) (an : Option Addr) (cdv ct : Value) (us : List Value), us.length = ps.length → bindArgs (PySem.W.fnOf m q (defArgs st) (defBody st) (defScope st) .none kV doc pm an cdv ct) ⟨us, []⟩ = pure (ps.zip us)) : PHas K C m q st ps :=
  ⟨p, g, _, a, fun_mk l c k, hb kV doc pm an cdv ct⟩
section
variable {P : Program} {w : World} {K : PySem.W.Frag} {mg : Str → Option Value} {base : Heap} {CX : CXT} {C : Addr}
theorem PHas.ok {m q : Str} {st : Stmt} {N ps : List Str} {k : Nat} {sp : Sp} (h : PHas K C m q st ps) (S : FnScope N ps (defScope st)) (len : ∀ vs H Q E, sp vs H Q E → vs.length = ps.length)
    (hbody : ∀ (f : Addr) (cdv : Value) (A : Around) (outer : List Env) (s : Shared) (H : Hp) (vs : List V) (Q : VK) (E : XK), Room k (A.deeper (envOfC q (defScope st) s.heap.objs.size f cdv)) → sp vs H Q E →
      ∃ t, PSs (cxOf CX0 P w K mg base N q (defScope st) f cdv A outer s H E).nox (defBody st) t ∧ t { nx := fun _ H' => Q .non H', rt := Q } (start N vs) H) : Prp P w K mg base CX0 (k + 1) C m sp := by
  obtain ⟨p, g, fd, hp, F, b⟩ := h
  exact ⟨p, g, fd, ps, hp, F.ok S len (fun cdv A outer s H vs Q E hr h => hbody g cdv A outer s H vs Q E hr h), .all b⟩
end
end Ov
namespace Ov
open PySem PySem.Spec PyProof.Rows L2
def oLtS : R2 := fun x y H Q => ∃ a b, x = .str a ∧ y = .str b ∧ Q (.bl (decide (a.cps.toList < b.cps.toList))) H
theorem op_oLtS {X : Cx} : OpR X (compareOp .Lt) oLtS := op_lt_str
theorem bi_sorted : bootBuiltins "sorted" = some (.builtin "sorted") := by decide +kernel
/-! steps for the readings of objects -/
section
variable {σ : L2.St} {H : Hp} {D : Ends} {te ta tb tv td tk : TE} {Q : VK} {C a dx p q : Addr} {f m : Str} {fs : List (Str × V)} {v x y : V} {sp : Sp} {E : XK} {al : TA} {K : PySem.W.Frag} {kvs : List (Key × V)} {k : Key}
theorem q_fldC (h : ta σ H fun x H1 => ∃ a dx fs v, x = .ref a ∧ H1 a = some (.ins C dx fs) ∧ fs.lookup f = some v ∧ Q v H1) : tFldC C f ta σ H Q := h
theorem q_sfldC (h : tv σ H fun y H1 => ta σ H1 fun x H2 => ∃ a dx fs, x = .ref a ∧ H2 a = some (.ins C dx fs) ∧ fs.length < 1000 ∧ D.nx σ (upd H2 a (.ins C dx (putF f y fs)))) : sFldC C f ta tv D σ H := h
theorem q_meth (h : ta σ H fun x H1 => ∃ a dx fs, x = .ref a ∧ H1 a = some (.ins C dx fs) ∧ fs.lookup m = none ∧ al σ H1 fun vs H2 => sp (x :: (vs ++ [])) H2 Q E) : tMeth C m sp [] E ta al σ H Q := h
theorem q_make (h : al σ H fun vs H1 => ∀ x dx, H1 x = none → H1 dx = none → dx ≠ x → sp (.ref x :: (vs ++ [])) (upd (upd H1 dx (.own x)) x (.ins C dx [])) (fun v H2 => v = .non ∧ Q (.ref x) H2) E) : tMake C sp [] E al σ H Q := h
theorem q_prp (h : ta σ H fun x H1 => ∃ a dx fs, x = .ref a ∧ H1 a = some (.ins C dx fs) ∧ sp (.ref a :: []) H1 Q E) : tProp C sp [] E ta σ H Q := h
theorem q_dnew (h : ∀ p, H p = none → Q (.ref p) (upd H p (.dK []))) : tDNewK σ H Q := h
theorem q_inK {kvs : List (Key × V)} (hp : H p = some (.dK kvs)) (h : Q (.bl (valV kvs k).isSome) H) : oInX K (kV k) (.ref p) H Q := .inr ⟨p, _, rfl, DGet.k hp, h⟩
theorem q_ixD {kvs : List (Key × V)} (hp : H p = some (.dK kvs)) (e : valV kvs k = some v) (h : Q v H) : oIxX K (.ref p) (kV k) H Q := .inr ⟨p, v, rfl, e ▸ DGet.k hp, h⟩
theorem q_ixX (h : oIx K x y H Q) : oIxX K x y H Q := .inl h
theorem q_addX (h : oAdd K x y H Q) : oAddX K x y H Q := .inl h
theorem q_lenX {xs : List V} (h : cLen K xs H Q) : cLenX K xs H Q := .inl h
theorem q_lenD (hp : H p = some (.dK kvs)) (h : Q (.int kvs.length) H) : cLenX K [.ref p] H Q := .inr ⟨p, kvs, rfl, .inl hp, h⟩
theorem q_setD {QH : Hp → Prop} (hp : H p = some (.dK kvs)) (hl : kvs.length < sizeLine) (h : QH (upd H p (.dK (putK kvs k v)))) : rSetX (.ref p) (kV k) v H QH := .inr ⟨p, _, rfl, DPut.k hp hl, h⟩
theorem q_tupL {xs : List V} (hp : H p = some (.lst xs)) (h : ∀ l, H l = none → Q (.ref l) (upd H l (.tup xs))) : cTupX K [.ref p] H Q := ⟨p, xs, rfl, .inl ⟨SqL.of hp, h⟩⟩
/-- t + (x,) of tuples -/
theorem q_snocT {xs : List V} {z : V} (hp : H p = some (.tup xs)) (hq : H q = some (.tup [z])) (hl : xs.length + 1 ≤ sizeLine) (h0 : xs = [] → Q (.ref q) H) (h : ∀ r, H r = none → Q (.ref r) (upd H r (.tup (xs ++ [z])))) : oAddX K (.ref p) (.ref q) H Q :=
  .inr ⟨p, q, xs, [z], rfl, rfl, SqT.of hp, SqT.of hq, hl, h0, (fun _ e => nomatch e), fun _ _ => h⟩
end
end Ov

set_option Elab.async false
set_option linter.all false
set_option maxRecDepth 100000
set_option maxHeartbeats 2000000
namespace Ov
open PySem PySem.Spec PyProof.Rows L2
/-! ### calls whose errors are let out, caught, or cannot be, by the caller's slots -/
theorem pAt0 {X : Cx} {σ : L2.St} {E : XK} : PassesAt CX0 X σ E := fun _ _ _ _ _ _ z => z.elim
theorem pAtN {X : Cx} {σ : L2.St} : PassesAt (L2.CX X.prog X.w) X σ E0 := fun _ _ _ _ _ _ z => by
  obtain ⟨_, _, _, _, _, _, _, _, _, _, _, _, f⟩ := z
  exact f.elim
theorem pAtP {X : Cx} {CX : CXT} {E : XK} {σ : L2.St} (h : Passes CX X E) : PassesAt CX X σ E := fun pins H s e s' I c => h pins σ H s e s' I c
section
variable {X : Cx} {CX : CXT} {k : Nat} {C : Addr} {ps : List Str} {sp : Sp} {A : Around} {f : Addr} {fd : FuncData} {pins : List (Addr × Obj)} {σ : L2.St} {H : Hp} {s : Shared} {Q : VK} {us : List Value} {vs : List V} {E : XK}
theorem env_at (I : Inv X pins σ H s) (hf : A.frames = X.A.frames) : Env0 X.prog X.w X.K X.mg X.base A X.stack s H := by
  have z := I.env0
  exact ⟨by rw [hf]; exact z.frames, z.mod, z.bs, z.bsz, z.funs, z.frf, z.hok, z.bare⟩
/-- the callee's code, somewhere below -/
theorem code_atS (F : FnOk X.prog X.w X.K X.mg X.base CX k f fd ps sp) (hr : Room k A) (hf : A.frames = X.A.frames) (hb : Binds X.K fd ps []) (hx : PassesAt CX X σ E) (I : Inv X pins σ H s) (r : Vals vs us) (h : sp vs H Q E) :
    codeAny (model X.prog X.w) A (.call (.ref f) ⟨us, []⟩) (fun r s' => match r with | .ok (.ret v) => EP X pins σ Q v s' | .ok _ => False | .error e => X.xe e s') s := by
  have hl : us.length = ps.length := by rw [← r.length]; exact F.len _ _ _ _ h
  have bd := hb s us I.kIn (by simpa using hl)
  refine codeAny_mono (F.run A X.stack s H ⟨us, []⟩ us vs Q E hr (env_at I hf) (by simpa using bd) r h) fun r s' z => ?_
  cases r with
  | error e => exact hx pins H s e s' I z
  | ok fl =>
    cases fl with
    | ret u => exact I.after z
    | next => exact z.elim
    | brk => exact z.elim
    | cont => exact z.elim
/-- a callee that raises nothing -/
theorem code_at0 (F : FnOk X.prog X.w X.K X.mg X.base CX0 k f fd ps sp) (hr : Room k A) (hf : A.frames = X.A.frames) (hb : Binds X.K fd ps []) (I : Inv X pins σ H s) (r : Vals vs us) (h : sp vs H Q E) :
    codeAny (model X.prog X.w) A (.call (.ref f) ⟨us, []⟩) (fun r s' => match r with | .ok (.ret v) => EP X pins σ Q v s' | _ => False) s := by
  have hl : us.length = ps.length := by rw [← r.length]; exact F.len _ _ _ _ h
  have bd := hb s us I.kIn (by simpa using hl)
  refine codeAny_mono (F.run A X.stack s H ⟨us, []⟩ us vs Q E hr (env_at I hf) (by simpa using bd) r h) fun r s' z => ?_
  cases r with
  | error e => exact z.elim
  | ok fl =>
    cases fl with
    | ret u => exact I.after z
    | next => exact z.elim
    | brk => exact z.elim
    | cont => exact z.elim
theorem run_atS (F : FnOk X.prog X.w X.K X.mg X.base CX k f fd ps sp) (hr : Room k A) (hf : A.frames = X.A.frames) (hb : Binds X.K fd ps []) (hx : PassesAt CX X σ E) (I : Inv X pins σ H s) (r : Vals vs us) (h : sp vs H Q E) :
    wpAny (model X.prog X.w) A (call (.ref f) us) (EP X pins σ Q) X.xe s := wpAny_call (code_atS F hr hf hb hx I r h)
theorem run_at0 {E1 : Value → Shared → Prop} (F : FnOk X.prog X.w X.K X.mg X.base CX0 k f fd ps sp) (hr : Room k A) (hf : A.frames = X.A.frames) (hb : Binds X.K fd ps []) (I : Inv X pins σ H s) (r : Vals vs us) (h : sp vs H Q E) :
    wpAny (model X.prog X.w) A (call (.ref f) us) (EP X pins σ Q) E1 s := wpAny_call (codeAny_mono (code_at0 F hr hf hb I r h) fun r s' z => by
  cases r with
  | error e => exact z.elim
  | ok fl =>
    cases fl with
    | ret u => exact z
    | next => exact z.elim
    | brk => exact z.elim
    | cont => exact z.elim)
theorem run_mkS (mk : PySem.W.makesIn X.K C = true) (M : MCal X.prog X.w X.K X.mg X.base CX k C "__init__" ps sp) (hr : Room (k + 1) X.A) (hx : PassesAt CX X σ E) (I : Inv X pins σ H s) (r : Vals vs us)
    (h : ∀ x dx, H x = none → H dx = none → dx ≠ x → sp (.ref x :: vs) (upd (upd H dx (.own x)) x (.ins C dx [])) (fun v H2 => v = .non ∧ Q (.ref x) H2) E) :
    wpAny (model X.prog X.w) X.A (call (.ref C) us) (EP X pins σ Q) X.xe s := by
  obtain ⟨f, fd, F, hm, b, fi⟩ := M
  have h0 := h (s.heap.objs.size + 1) s.heap.objs.size (I.hok.fresh (Nat.le_succ _)) (I.hok.fresh (Nat.le_refl _)) (Nat.ne_of_lt (Nat.lt_succ_self _))
  have J := Inv.made (C := C) I
  refine wpAny_call (make_map (f := f) I.kIn mk hm.at_ (beq_iff_eq.mp hm.fn) (codeAny_mono (code_atS (A := X.A.under (.builtin "type.__call__" ⟨.ref C :: us, []⟩)) F (hr.make C us [])
    (by rw [(J.env0.make C us []).frames, J.env0.frames]) b hx J (Paired.cons (show RelV (.ref (s.heap.objs.size + 1)) (Value.ref (s.heap.objs.size + 1)) from rfl) r) h0) fun r s' z => ?_))
  cases r with
  | error e => exact z
  | ok fl =>
    cases fl with
    | ret u =>
      obtain ⟨v, H', I3, rv, ev, q3⟩ := z
      subst ev
      exact ⟨rv, ⟨V.ref (s.heap.objs.size + 1), H', I3, rfl, q3⟩⟩
    | next => exact z.elim
    | brk => exact z.elim
    | cont => exact z.elim
end
/-- C(..), what it raises wished for at the slots -/
def tMakeS (C : Addr) (sp : Sp) (E : L2.St → XK) (t : TA) : TE := fun σ H Q => t σ H fun vs H1 => ∀ x dx, H1 x = none → H1 dx = none → dx ≠ x →
  sp (.ref x :: vs) (upd (upd H1 dx (.own x)) x (.ins C dx [])) (fun v H2 => v = .non ∧ Q (.ref x) H2) (E σ)
/-- x(..), x a name of the def that holds the class at C -/
def tMakeV (i : Nat) (C : Addr) (sp : Sp) (E : L2.St → XK) (t : TA) : TE := fun σ H Q => σ[i]? = some (some (.ref C)) ∧ tMakeS C sp E t σ H Q
def tMethS (C : Addr) (m : Str) (sp : Sp) (E : L2.St → XK) (ta : TE) (t : TA) : TE := fun σ H Q => ta σ H fun x H1 => ∃ a dx fs, x = .ref a ∧ H1 a = some (.ins C dx fs) ∧ fs.lookup m = none ∧ t σ H1 fun vs H2 => sp (x :: vs) H2 Q (E σ)
/-- C.m(..), m a classmethod -/
def tKMeth (C : Addr) (sp : Sp) (E : L2.St → XK) (ta : TE) (t : TA) : TE := fun σ H Q => ta σ H fun x H1 => x = .ref C ∧ t σ H1 fun vs H2 => sp (.ref C :: vs) H2 Q (E σ)
/-- the classmethod m of the class at C keeps sp -/
def KCal (P : Program) (w : World) (K : PySem.W.Frag) (mg : Str → Option Value) (base : Heap) (CX : CXT) (k : Nat) (C : Addr) (m : Str) (ps : List Str) (sp : Sp) : Prop :=
  ∃ (p g : Addr) (fd : FuncData), FnOk P w K mg base CX k g fd ps sp ∧ ClX.CMet K C (.type "type") m p g ∧ Binds K fd ps []
def KHas (K : PySem.W.Frag) (C : Addr) (m q : Str) (st : Stmt) (ps : List Str) : Prop :=
  ∃ (p g : Addr) (fd : FuncData), Fun K m q st g fd ∧ ClX.CMet K C (.type "type") m p g ∧ ∀ us : List Value, us.length = ps.length → bindArgs fd ⟨us, []⟩ = pure (ps.zip us)
section
variable {P : Program} {w : World} {K : PySem.W.Frag} {mg : Str → Option Value} {base : Heap} {C : Addr} {m q : Str} {st : Stmt} {N ps : List Str} {k : Nat} {sp : Sp}
theorem KHas.ok (h : KHas K C m q st ps) (S : FnScope N ps (defScope st)) (len : ∀ vs H Q E, sp vs H Q E → vs.length = ps.length)
    (hbody : ∀ (f : Addr) (cdv : Value) (A : Around) (outer : List Env) (s : Shared) (H : Hp) (vs : List V) (Q : VK) (E : XK), Room k (A.deeper (envOfC q (defScope st) s.heap.objs.size f cdv)) → sp vs H Q E →
      ∃ t, PSs (cxOf CX0 P w K mg base N q (defScope st) f cdv A outer s H E).nox (defBody st) t ∧ t { nx := fun _ H' => Q .non H', rt := Q } (start N vs) H) : KCal P w K mg base CX0 (k + 1) C m ps sp := by
  obtain ⟨p, g, fd, F, M, b⟩ := h
  exact ⟨p, g, fd, F.ok S len (fun cdv A outer s H vs Q E hr h => hbody g cdv A outer s H vs Q E hr h), M, .all b⟩
theorem KHas.okX (h : KHas K C m q st ps) (S : FnScope N ps (defScope st)) (len : ∀ vs H Q E, sp vs H Q E → vs.length = ps.length)
    (hbody : ∀ (f : Addr) (cdv : Value) (A : Around) (outer : List Env) (s : Shared) (H : Hp) (vs : List V) (Q : VK) (E : XK), Room k (A.deeper (envOfC q (defScope st) s.heap.objs.size f cdv)) → sp vs H Q E →
      ∃ t, PSs (cxOf (L2.CX P w) P w K mg base N q (defScope st) f cdv A outer s H E) (defBody st) t ∧ t { nx := fun _ H' => Q .non H', rt := Q } (start N vs) H) : KCal P w K mg base (L2.CX P w) (k + 1) C m ps sp := by
  obtain ⟨p, g, fd, F, M, b⟩ := h
  exact ⟨p, g, fd, F.okX S len (fun cdv A outer s H vs Q E hr h => hbody g cdv A outer s H vs Q E hr h), M, .all b⟩
end
section
variable {X : Cx} {CX : CXT} {k : Nat} {C : Addr} {m : Str} {ps : List Str} {sp : Sp} {E : L2.St → XK} {p pos apos : Pos} {o e : Expr} {es : List Expr} {ta : TE} {t : TA} {x : Str} {i : Nat}
theorem pe_mkS (M0 : MkC X.K X.mg x C) (M : MCal X.prog X.w X.K X.mg X.base CX k C "__init__" ps sp) (hr : Room (k + 1) X.A) (hx : ∀ σ, PassesAt CX X σ (E σ)) (hg : Gl X x) (ha : PA X (e :: es) t) (hdb : (x == ("__debug__" : Str)) = false := by decide)
    (he : starEach (e :: es) X.env = (false, eval e X.env) :: starEach es X.env := by rfl) (hpl : (backTo pos (starEach es X.env)).any (·.1) = false := by rfl) : PE X (.Call (.Name x p) (e :: es) [] pos) (tMakeS C sp E t) := by
  refine ⟨fun pins s σ H Q I h => wpAny_Call_Name_kw (ld_glob I hg M0.gl ?_ hdb)⟩
  exact PySem.W.callWith_K (h₀ := X.base) I.ok.mod.kin M0.kp (thn (ha.run pos pins s σ H _ I h) fun us s1 ⟨vs, H1, I1, r, z⟩ => ⟨I1.kIn, run_mkS M0.makes M hr (hx σ) I1 r z⟩) he hpl
theorem pe_mkS0 (M0 : MkC X.K X.mg x C) (M : MCal X.prog X.w X.K X.mg X.base CX k C "__init__" ps sp) (hr : Room (k + 1) X.A) (hx : ∀ σ, PassesAt CX X σ (E σ)) (hg : Gl X x) (hdb : (x == ("__debug__" : Str)) = false := by decide) :
    PE X (.Call (.Name x p) [] [] pos) (tMakeS C sp E tNil) := by
  refine ⟨fun pins s σ H Q I h => wpAny_Call_Name_kw (ld_glob I hg M0.gl ?_ hdb)⟩
  exact PySem.W.callWith_K0 I.kIn M0.kp (run_mkS (us := []) M0.makes M hr (hx σ) I .nil h)
theorem pe_mkV (mk : PySem.W.makesIn X.K C = true) (kp : PySem.W.keepIn X.K (.ref C) = true) (M : MCal X.prog X.w X.K X.mg X.base CX k C "__init__" ps sp) (hr : Room (k + 1) X.A) (hx : ∀ σ, PassesAt CX X σ (E σ)) (hN : X.N[i]? = some x) (hv : Vis X.env.scope x) (ha : PA X (e :: es) t)
    (hd : (x == ("__debug__" : Str)) = false := by decide) (hcd : (x == ("__classdict__" : Str)) = false := by decide)
    (he : starEach (e :: es) X.env = (false, eval e X.env) :: starEach es X.env := by rfl) (hpl : (backTo pos (starEach es X.env)).any (·.1) = false := by rfl) : PE X (.Call (.Name x p) (e :: es) [] pos) (tMakeV i C sp E t) := by
  refine ⟨fun pins s σ H Q I h => ?_⟩
  obtain ⟨hs, h⟩ := h
  refine wpAny_Call_Name_kw (thn ((pe_var (pos := p) (i := i) hN hv hd hcd).run pins s σ H (fun v H1 => v = .ref C ∧ H1 = H) I ⟨.ref C, hs, rfl, rfl⟩) fun u s1 ⟨v, H1, I1, r1, ev, eH⟩ => ?_)
  subst ev eH
  cases r1
  exact PySem.W.callWith_K (h₀ := X.base) I.ok.mod.kin kp (thn (ha.run pos pins s1 σ _ _ I1 h) fun us s2 ⟨vs, H2, I2, r, z⟩ => ⟨I2.kIn, run_mkS mk M hr (hx σ) I2 r z⟩) he hpl
theorem pe_mthS {pl : Sem Bool} (he : PE X o ta) (c : Cls X.K C) (M : MCal X.prog X.w X.K X.mg X.base CX k C m ps sp) (hr : Room k X.A) (hx : ∀ σ, PassesAt CX X σ (E σ)) (ha : PA X (e :: es) t)
    (hst : starEach (e :: es) X.env = (false, eval e X.env) :: starEach es X.env := by rfl) (hpl : (backTo pos (starEach es X.env)).any (·.1) = false := by rfl)
    (ht : eval (.Call (.Attribute o m apos) (e :: es) [] pos) X.env = (do
      let ov ← eval o X.env
      standAt apos.atName
      let (f, first) ← holding [ov] (getMethod ov m pl)
      callWith pos f first (backTo pos (starEach (e :: es) X.env)) (backToKw pos (keywordEach [] X.env))) := by rfl) :
    PE X (.Call (.Attribute o m apos) (e :: es) [] pos) (tMethS C m sp E ta t) := by
  obtain ⟨f, fd, F, hm, b, fi⟩ := M
  refine ⟨fun pins s σ H Q I h => PySem.W.methodCall_KW (pl := pl) (thn (he.run pins s σ H _ I h) fun u s1 ⟨x, H1, I1, rx, a, dx, fs, ex, ea, l, z⟩ => ?_) ht⟩
  subst ex
  obtain rfl : u = Value.ref a := rx
  refine getmeth_ok I1 ea c hm l (PySem.W.callWith_K (first := [.ref a]) (h₀ := X.base) I.ok.mod.kin hm.kp (thn (ha.run pos pins s1 σ H1 _ I1 z) fun us s2 ⟨vs, H2, I2, r, y⟩ => ⟨I2.kIn, ?_⟩) hst hpl)
  exact run_atS (us := .ref a :: us) (vs := .ref a :: vs) F hr rfl b (hx σ) I2 (.cons rfl r) y
theorem pe_mthS0 {pl : Sem Bool} (he : PE X o ta) (c : Cls X.K C) (M : MCal X.prog X.w X.K X.mg X.base CX k C m ps sp) (hr : Room k X.A) (hx : ∀ σ, PassesAt CX X σ (E σ))
    (ht : eval (.Call (.Attribute o m apos) [] [] pos) X.env = (do
      let ov ← eval o X.env
      standAt apos.atName
      let (f, first) ← holding [ov] (getMethod ov m pl)
      callWith pos f first (backTo pos (starEach [] X.env)) (backToKw pos (keywordEach [] X.env))) := by rfl) :
    PE X (.Call (.Attribute o m apos) [] [] pos) (tMethS C m sp E ta tNil) := by
  obtain ⟨f, fd, F, hm, b, fi⟩ := M
  refine ⟨fun pins s σ H Q I h => PySem.W.methodCall_KW (pl := pl) (thn (he.run pins s σ H _ I h) fun u s1 ⟨x, H1, I1, rx, a, dx, fs, ex, ea, l, z⟩ => ?_) ht⟩
  subst ex
  obtain rfl : u = Value.ref a := rx
  exact getmeth_ok I1 ea c hm l (PySem.W.callWith_K0 (first := [.ref a]) I1.kIn hm.kp (run_atS (us := [.ref a]) (vs := [.ref a]) F hr rfl b (hx σ) I1 (.cons rfl .nil) z))
theorem pe_kmS {pl : Sem Bool} (he : PE X o ta) (rd : ClX.CRead X.K C (.type "type")) (M : KCal X.prog X.w X.K X.mg X.base CX k C m ps sp) (hr : Room k X.A) (hx : ∀ σ, PassesAt CX X σ (E σ)) (ha : PA X (e :: es) t)
    (hst : starEach (e :: es) X.env = (false, eval e X.env) :: starEach es X.env := by rfl) (hpl : (backTo pos (starEach es X.env)).any (·.1) = false := by rfl)
    (ht : eval (.Call (.Attribute o m apos) (e :: es) [] pos) X.env = (do
      let ov ← eval o X.env
      standAt apos.atName
      let (f, first) ← holding [ov] (getMethod ov m pl)
      callWith pos f first (backTo pos (starEach (e :: es) X.env)) (backToKw pos (keywordEach [] X.env))) := by rfl) :
    PE X (.Call (.Attribute o m apos) (e :: es) [] pos) (tKMeth C sp E ta t) := by
  obtain ⟨p, g, fd, F, c, b⟩ := M
  refine ⟨fun pins s σ H Q I h => PySem.W.methodCall_KW (pl := pl) (thn (he.run pins s σ H _ I h) fun u s1 ⟨x, H1, I1, rx, ex, z⟩ => ?_) ht⟩
  subst ex
  obtain rfl : u = Value.ref C := rx
  refine ClX.getmethcm_ok I1 rd c fun s2 I2 => ?_
  refine ClX.callwith_cm I2 (ClX.base_none I1 (Nat.le_refl _)) c.fi (thn (ha.run pos _ s2 σ H1 _ I2 z) fun us s3 ⟨vs, H2, I3, rv, y⟩ => ⟨⟨ClX.pin_at I3, I3.kIn⟩, ?_⟩) hst hpl
  have fin := wpAny_call (PySem.W.method_call (ClX.pin_at I3) (code_atS (us := .ref C :: us) (vs := .ref C :: vs) F hr rfl b (hx σ) I3 (.cons rfl rv) y))
  exact thn fin fun _ _ y => ClX.unpinE y
end
end Ov

set_option Elab.async false
set_option linter.all false
set_option maxRecDepth 100000
set_option maxHeartbeats 2000000
/-! ### a tuple's iterator at its end -/
namespace OvT
open PySem
section
variable {prog : Program} {w : World} {A : Around} {E : Value → Shared → Prop} {s : Shared}
theorem next_end {z y : Addr} {n : Nat} {its : Array Value} {Q : Option Value → Shared → Prop} (calm : A.handled = none) (hz : s.heap.IsTupleIter z y n) (hy : s.heap.IsTuple y its) (none_ : its[n]? = none)
    (fin : ∀ h', Heap.ExtBut z s.heap h' → (∃ u, h'.get? z = some u) → Q none { s with heap := h' }) : wpAny (model prog w) A (pyNext (.ref z)) Q E s := by
  obtain ⟨oz, gz, cz, dz⟩ := id hz
  obtain ⟨oy, gy, _, ny, dy⟩ := hy
  unfold pyNext
  refine wpAny_bind (wpAny_attempt (wpAny_callSpecial?_slot (name := Str.ofString "__next__") hz.typeIs F.slot_tuple_iterator_next (wpAny_call_entry F.slot_tuple_iterator_next hz.typeIs F.entry_tuple_iterator_next ?_ (F.args_tuple_iterator_next_1 _))))
  show wpAny _ _ (field (.ref z) 0 >>= _) _ _ s
  refine wpAny_bind (wpAny_field gz dz (x := .ref y) rfl ?_)
  show wpAny _ _ (if (Value.ref y == Value.none) = true then _ else _) _ _ s
  rw [if_neg (show ¬ ((Value.ref y == Value.none) = true) from Bool.false_ne_true)]
  show wpAny _ _ (field (.ref z) 1 >>= _) _ _ s
  refine wpAny_bind (wpAny_field gz dz (x := .int n 0) rfl ?_)
  show wpAny _ _ (seqItems? (.ref y) >>= _) _ _ s
  refine wpAny_bind (wpAny_seqItems gy dy ?_)
  simp only [Int.toNat_natCast, none_]
  refine wpAny_bind (wpAny_rule (wpAny_bind (wpAny_setField gz dz (by simp) ?_)))
  show wpAny _ _ (newExc (.type "StopIteration") List.nil >>= _) _ _ _
  refine wpAny_bind ?_
  simp only [newExc, newTuple, raiseNew]
  refine wpAny_bind (wpAny_newObj_type ?_ (by size_fits))
  refine wpAny_bind (m := firstArgMember _ _) (wpAny_of_eq (a := Value.none) (by first | rfl | (simp only [firstArgMember] <;> rfl)) ?_)
  refine wpAny_newObj_type ?_ (by size_fits)
  refine wpAny_bind (wpAny_handled ?_)
  first | rw [show A.in1.handled = none from calm] | rw [calm]
  refine wpAny_bind (wpAny_pure (wpAny_throw ?_))
  refine wpAny_bind (wpAny_isInstance (T := "StopIteration") (b := true) ⟨_, Heap.get?_push_size _ rfl, rfl⟩ isSubtype_stop ?_)
  refine wpAny_pure (fin _ (((Heap.SameBut.update ..).extBut.push _).push _) ⟨_, Heap.get?_push_of_some _ (Heap.get?_push_of_some _ (Heap.get?_update_self _ gz (Obj.isFreed_of_fields (Obj.data_mapFields dz _))))⟩)
end
set_option maxHeartbeats 1000000 in
theorem meets_enumT (l : Addr) (items : Array Value) (n : Nat) (dct : Option Addr) (sl : Array (Option Value)) :
    Meets (Builtin.«enumerate.__new__» ⟨[.type "enumerate", .ref l], []⟩) (fun _ R s => s.heap.get? l = some { cls := .type "tuple", dict := dct, data := .seq items n, slots := sl } ∧
      R (.ok (.ret (.ref (s.heap.push { cls := .type "tuple_iterator", data := .fields #[.ref l, .int 0 0] }).objs.size)))
        { s with heap := (s.heap.push { cls := .type "tuple_iterator", data := .fields #[.ref l, .int 0 0] }).push { cls := .type "enumerate", data := .fields #[.none, .bool false, .ref s.heap.objs.size, rawInt 0, .none, .none] } }) :=
  .of_wp fun prog w A R s h => by
    obtain ⟨hp, g, d, tk, os⟩ := s
    obtain ⟨hl, h⟩ := h
    have hsub := sub_enumerate
    have hT : Heap.IsTuple (Shared.heap ⟨hp, g, d, tk, os⟩) l items := ⟨_, hl, rfl, n, rfl⟩
    wp_walk using AutoSeq1.wpAny_loadPart' hl
    refine wpAny_stack_any fun st => wpAny_pure ?_
    split
    · rename_i c _ _ _ _ _
      cases (c == Value.type "enumerate")
      · wp_walk using AutoSeq1.wpAny_loadPart' hl, wpAny_pyIter_tuple hT
        exact ⟨_, rfl, h⟩
      · wp_walk using AutoSeq1.wpAny_loadPart' hl, wpAny_pyIter_tuple hT
        exact ⟨_, rfl, h⟩
    · wp_walk using AutoSeq1.wpAny_loadPart' hl, wpAny_pyIter_tuple hT
      exact ⟨_, rfl, h⟩
section
variable {prog : Program} {w : World} {A : Around} {E : Value → Shared → Prop} {s : Shared}
theorem call_enumT {l : Addr} {items : Array Value} {Q : Value → Shared → Prop} (hL : s.heap.IsTuple l items)
    (h : ∀ h', IsEnum h' (s.heap.objs.size + 1) s.heap.objs.size 0 .none → h'.IsTupleIter s.heap.objs.size l 0 → (∀ b o, s.heap.get? b = some o → h'.get? b = some o) → Q (.ref (s.heap.objs.size + 1)) { s with heap := h' }) :
    wpAny (model prog w) A (call (.type "enumerate") [.ref l]) Q E s := by
  obtain ⟨⟨c, dct, dt, sl⟩, hl, hc, n, hd⟩ := hL
  dsimp only at hc hd
  subst hc hd
  refine callType_new F.called_enumerate (by decide) (F.typeCall_enumerate_1 _) (F.newCall_enumerate_1 _) (fun obj => F.args_object_init_2 obj _) F.entry_enumerate_new (meets_enumT l items n dct sl) ⟨hl, ?_⟩
  have hz : (s.heap.push { cls := .type "tuple_iterator", data := .fields #[.ref l, .int 0 0] }).objs.size = s.heap.objs.size + 1 := Heap.size_push ..
  show _ ∧ _
  rw [hz]
  have he := Heap.get?_push_size (s.heap.push { cls := .type "tuple_iterator", data := .fields #[.ref l, .int 0 0] }) (o := { cls := .type "enumerate", data := .fields #[.none, .bool false, .ref s.heap.objs.size, rawInt 0, .none, .none] }) rfl
  rw [hz] at he
  exact ⟨⟨_, he, rfl⟩, h _ he ⟨_, Heap.get?_push_of_some _ (Heap.get?_push_size _ rfl), rfl, rfl⟩ fun b o x => Heap.get?_push_of_some _ (Heap.get?_push_of_some _ x)⟩
end
end OvT
namespace Ov
open PySem PySem.Spec PyProof.Rows L2
/-! ### enumerate(tuple) -/
def IteT (K : PySem.W.Frag) (a : Addr) : It :=
  ⟨fun i H => ∃ (xs : List V) (x : V), SqT K H a xs ∧ xs[i]? = some x, fun i H v H' => ∃ T x, v = .ref T ∧ H T = none ∧ H' = upd H T (.tup [.int (i : Nat), x]) ∧ ∀ xs, SqT K H a xs → xs[i]? = some x, fun i H => ∃ xs : List V, SqT K H a xs ∧ xs.length = i⟩
theorem turn_enumT {P : Program} {w : World} {K : PySem.W.Frag} {elts : List Expr} {kk : Nat} {tpos : Pos} (a e it : Addr) :
    Turn P w K (.Tuple elts kk tpos) (IteT K a) [e, it] e (fun i h => (∃ old, IsEnum h e it ((i : Nat) : Int) old) ∧ h.IsTupleIter it a i ∧ e ≠ it) where
  mem := by simp
  obj := fun i h st b hb => by
    obtain ⟨⟨old, he⟩, ⟨o, ho, hc, hd⟩, _⟩ := st
    have z : b = e ∨ b = it := by simpa using hb
    rcases z with z | z
    · subst z
      exact ⟨_, he, fun v q => nomatch q⟩
    · subst z
      exact ⟨o, ho, fun v q => by rw [hd] at q; cases q⟩
  keep := fun i h h' st k => let ⟨⟨old, he⟩, hi, hne⟩ := st; ⟨⟨old, k e (by simp) _ he⟩, hi.at fun o q => k it (by simp) o q, hne⟩
  item := by
    intro X hP hw hK hc i pins s σ H E I hf st hg
    subst hP hw hK
    obtain ⟨⟨old, he⟩, hit, hne⟩ := st
    obtain ⟨xs, x, hq, hx⟩ := hg
    obtain ⟨its, rv, p, hz⟩ := I.tuple hq
    have pT : s.heap.IsTuple a its.toArray := p
    obtain ⟨u, hu, ru⟩ := rv.get hx
    have hel : e < s.heap.objs.size := Heap.lt_size he
    have hil : it < s.heap.objs.size := by obtain ⟨_, q, _⟩ := hit; exact Heap.lt_size q
    have ai : a ≠ it := fun z => by
      obtain ⟨o1, g1, c1, _⟩ := pT
      obtain ⟨o2, g2, c2, _⟩ := id hit
      rw [z, g2] at g1
      cases g1
      rw [c1] at c2
      exact absurd c2 (by decide)
    have ae : a ≠ e := fun z => by
      obtain ⟨o1, g1, c1, _⟩ := pT
      rw [z, show s.heap.get? e = _ from he] at g1
      cases g1
      exact absurd (show Value.type "enumerate" = Value.type "tuple" from c1) (by decide)
    have hlt : i < its.toArray.size := by
      have z := (List.getElem?_eq_some_iff.mp hu).1
      simpa using z
    refine wpAny_pyNext_enum_itemD (Draws.tuple (A := X.A.in1) (I.ok.hd hc) it a ai its.toArray) he ⟨hit, pT⟩ hlt hne (by simp; exact ⟨hne, fun z => ae z.symm⟩) fun x' h' tk hP' ho hit' hT hsz hk => ?_
    have ex : x' = u := by
      have z : its.toArray[i]? = some x' := hP'
      rw [List.getElem?_toArray, hu] at z
      exact (Option.some.inj z).symm
    subst ex
    refine ⟨_, rfl, wpAny_letOwnedTupleGo_enum (s := { s with heap := h', toks := tk + 1 }) ho fun h'' he' sb => ?_⟩
    have hT2 : h''.get? s.heap.objs.size = some { cls := .type "tuple", data := .seq #[.int i tk, x'] } := (sb.2 _ (Nat.ne_of_gt hel)).trans hT
    have new : ObjOk X.prog X.w (upd H s.heap.objs.size (.tup [.int (i : Nat), x])) h'' s.heap.objs.size (.tup [.int (i : Nat), x]) :=
      ⟨by show 2 ≤ sizeLine; decide, [.int i tk, x'], .cons ⟨_, rfl⟩ (.cons ru .nil), ⟨_, hT2, rfl, _, rfl⟩⟩
    have I1 : Inv X pins σ (upd H s.heap.objs.size (.tup [.int (i : Nat), x])) { s with heap := h'', toks := tk + 1 } :=
      I.turnedNew (ch := [e, it]) (fun b ob hb q => (sb.2 b (fun z => hb (by simp [z]))).trans (hk b ob (fun z => hb (by simp [z])) (fun z => hb (by simp [z])) q)) hf (Nat.le_refl _) new
    refine ⟨.ref s.heap.objs.size, _, I1, rfl, ⟨_, x, rfl, I.hok.fresh (Nat.le_refl _), rfl, fun ys hy => by rw [I.tuple_inj hy hq]; exact hx⟩, ⟨⟨x', ?_⟩, hit'.1.at fun o q => (sb.2 it (Ne.symm hne)).trans q, hne⟩, fun b hb => ?_⟩
    · rw [show ((i + 1 : Nat) : Int) = (i : Int) + 1 by omega]
      exact he'
    · have hb' : b < s.heap.objs.size := by
        have z : b = e ∨ b = it := by simpa using hb
        rcases z with z | z <;> rw [z] <;> assumption
      rw [upd_ne (Nat.ne_of_lt hb')]
      exact (hf b hb).1
  done := by
    intro X hP hw hK hc i pins s σ H E I hf st hg
    subst hP hw hK
    obtain ⟨⟨old, he⟩, hit, hne⟩ := st
    obtain ⟨xs, hq, hx⟩ := hg
    obtain ⟨its, rv, p, hz⟩ := I.tuple hq
    have pT : s.heap.IsTuple a its.toArray := p
    obtain ⟨f0, f1, f2, f3, f4, f5⟩ := hf it (by simp)
    have ai : a ≠ it := fun z => by
      obtain ⟨o1, g1, c1, _⟩ := pT
      obtain ⟨o2, g2, c2, _⟩ := id hit
      rw [z, g2] at g1
      cases g1
      rw [c1] at c2
      exact absurd c2 (by decide)
    have hn : its.toArray.size = i := by rw [List.size_toArray, ← rv.length]; exact hx
    subst hn
    exact wpAny_pyNext_enum_endD (Draws.tuple (A := X.A.in1) (I.ok.hd hc) it a ai its.toArray) he ⟨hit, pT⟩ fun h' eb => ⟨rfl, I.turned (t' := s.toks) (fun b o hb q => eb b o hb q) f0 f1 f3 f4 f5⟩
  self := fun A i s Q E st h => let ⟨⟨_, he⟩, _⟩ := st; wpAny_pyIter_enum he h
/-- enumerate(e), e a list or a tuple -/
def iEnumA (K : PySem.W.Frag) (ta : TA) : TI := fun σ H R => ta σ H fun vs H1 => ∃ a xs, vs = [.ref a] ∧ ((SqL K H1 a xs ∧ R (Ite K a) H1) ∨ (SqT K H1 a xs ∧ R (IteT K a) H1))
theorem pi_enumA {X : Cx} {e : Expr} {ta : TA} {p pos tpos : Pos} {elts : List Expr} {kk : Nat} (hg : Gl X "enumerate") (hm : X.mg "enumerate" = none) (ha : PA X [e] ta) (hs : starEach [e] X.env = [(false, eval e X.env)] := by rfl) :
    PI X (.Tuple elts kk tpos) (.Call (.Name "enumerate" p) [e] [] pos) (iEnumA X.K ta) := by
  refine ⟨fun pins s σ H R I h => Call_ (ld_blt I hg hm boot_enumerate (PyProof.Rows.callWith_type1 (thn (ha.run pos pins s σ H _ I h) fun us s1 ⟨vs, H1, I1, r1, q1⟩ => ?_) hs rfl))⟩
  obtain ⟨a, xs, ex, q⟩ := q1
  subst ex
  obtain ⟨u, rfl, ru⟩ := vals1 r1
  cases ru
  have le : ∀ b, b = s1.heap.objs.size + 1 ∨ b = s1.heap.objs.size → s1.heap.objs.size ≤ b := fun b z => by
    rcases z with z | z <;> omega
  rcases q with ⟨hq, q⟩ | ⟨hq, q⟩
  · obtain ⟨its, rv, p', hz⟩ := I1.list hq
    refine call_enumerate_list p'.isList fun h' he hit hsz hk => wpAny_pyIter_enum he ?_
    exact ⟨s1.heap.objs.size + 1, [s1.heap.objs.size + 1, s1.heap.objs.size], _, _, H1, rfl, I1.kept (t' := s1.toks) hk, turn_enum a (s1.heap.objs.size + 1) s1.heap.objs.size, ⟨⟨.none, he⟩, hit, Nat.succ_ne_self _⟩,
      fun b hb => I1.fpOk (le b (by simpa using hb)) (I1.hok.fresh (le b (by simpa using hb))), q⟩
  · obtain ⟨its, rv, p', hz⟩ := I1.tuple hq
    refine OvT.call_enumT (show s1.heap.IsTuple a its.toArray from p') fun h' he hit hk => wpAny_pyIter_enum he ?_
    exact ⟨s1.heap.objs.size + 1, [s1.heap.objs.size + 1, s1.heap.objs.size], _, _, H1, rfl, I1.kept (t' := s1.toks) hk, turn_enumT a (s1.heap.objs.size + 1) s1.heap.objs.size, ⟨⟨.none, he⟩, hit, Nat.succ_ne_self _⟩,
      fun b hb => I1.fpOk (le b (by simpa using hb)) (I1.hok.fresh (le b (by simpa using hb))), q⟩
theorem walk_enumT {K : PySem.W.Frag} {a : Addr} {xs : List V} : Walk (IteT K a) xs.length (fun H => SqT K H a xs) (YPair (fun i => some (.int (i : Nat))) (fun i => xs[i]?)) := by
  refine ⟨fun i _ hi q => ⟨xs, xs[i], q, by simp [hi]⟩, fun _ q => ⟨xs, q, rfl⟩, fun i H v H' _ q y => ?_⟩
  obtain ⟨T, x, h1, h2, h3, h4⟩ := y
  exact ⟨T, .int (i : Nat), x, h1, h2, h3, rfl, h4 xs q⟩
/-! ### iter(tuple) -/
def TItO (y z : Addr) (i : Nat) : HO := .ext fun h => h.IsTupleIter z y i
def TEnd (z : Addr) : HO := .ext fun h => ∃ o, h.get? z = some o
theorem tit_ok {P : Program} {w : World} {H : Hp} {h : Heap} {y z : Addr} {i : Nat} (e : h.IsTupleIter z y i) : ObjOk P w H h z (TItO y z i) := ⟨e, (let ⟨o, g, _⟩ := e; ⟨o, g⟩), fun h1 h2 q k => q.at k⟩
theorem tend_ok {P : Program} {w : World} {H : Hp} {h : Heap} {z : Addr} (e : ∃ o, h.get? z = some o) : ObjOk P w H h z (TEnd z) := ⟨e, e, fun h1 h2 ⟨o, g⟩ k => ⟨o, k o g⟩⟩
def rIterT (K : PySem.W.Frag) : List V → Hp → VK → Prop := fun xs H Q => ∃ (y : Addr) (zs : List V), xs = [.ref y] ∧ SqT K H y zs ∧ ∀ z, H z = none → Q (.ref z) (upd H z (TItO y z 0))
theorem call_iterT {X : Cx} : CallR X (.builtin "iter") (rIterT X.K) := by
  intro pins s σ H xs us Q I r h
  obtain ⟨y, zs, rfl, hq, q⟩ := h
  obtain ⟨u, rfl, ru⟩ := vals1 r
  cases ru
  obtain ⟨its, rv, pt, hz⟩ := I.tuple hq
  have fin : wpAny (model X.prog X.w) X.A.in1 (pyIter (.ref y)) (fun v s' => EP X pins σ Q v s') X.xe s := by
    refine wpAny_pyIter_tuple (show s.heap.IsTuple y its.toArray from pt) ?_
    exact ⟨.ref s.heap.objs.size, _, I.laid (t' := s.toks) (fun b u e => Heap.get?_push_of_some _ e) (Nat.le_refl _) (tit_ok ⟨_, Heap.get?_push_size _ rfl, rfl, rfl⟩), rfl, q _ (I.hok.fresh (Nat.le_refl _))⟩
  refine Calls.call_function_entry (by decide +kernel) (by decide +kernel) PySem.W.kdk_entry_iter (PySem.W.kdk_args_iter _) ?_
  unfold Builtin.«iter»
  refine wpAny_bind (m := someArgs "iter" 1 2 _) (wpAny_of_eq (a := [Value.ref y]) (by first | rfl | kernel_rfl!) ?_)
  show wpAny _ _ (pyIter (.ref y) >>= _) _ _ _
  exact wpAny_bind (wpAny_mono fin (fun v s' z => wpAny_pure ⟨_, rfl, z⟩) fun _ _ z => z)
theorem bi_iter : bootBuiltins "iter" = some (.builtin "iter") := by decide +kernel
section
variable {X : Cx} {pins : List (Addr × Obj)} {σ : L2.St} {H : Hp} {s : Shared} {y z : Addr} {i : Nat} {xs : List V} {A : Around} {E : Value → Shared → Prop} {Q : Option Value → Shared → Prop}
theorem tit_item {v : V} (I : Inv X pins σ H s) (ez : H z = some (TItO y z i)) (ey : SqT X.K H y xs) (hx : xs[i]? = some v) (hQ : ∀ u s', RelV v u → Inv X pins σ (upd H z (TItO y z (i + 1))) s' → Q (some u) s') :
    wpAny (model X.prog X.w) A (pyNext (.ref z)) Q E s := by
  have hz := (I.hok z _ ez).1
  obtain ⟨its, rv, pt, _⟩ := I.tuple ey
  obtain ⟨u, hu, ru⟩ := rv.get hx
  have mu : Mut (H z) := by rw [ez]; exact True.intro
  refine wpAny_pyNext_tuple_item hz (show s.heap.IsTuple y its.toArray from pt) (x := u) (by simpa using hu) fun h' e' sb => hQ u _ ru ?_
  exact I.write (x := z) (e := z) (t' := s.toks) mu (.inl rfl) (fun b o nb g => (sb.2 b nb).trans g) (let ⟨o, g, _⟩ := e'; ⟨o, g⟩) (tit_ok e')
theorem tit_end (calm : A.handled = none) (I : Inv X pins σ H s) (ez : H z = some (TItO y z i)) (ey : SqT X.K H y xs) (hx : xs[i]? = none) (hQ : ∀ s', Inv X pins σ (upd H z (TEnd z)) s' → Q none s') :
    wpAny (model X.prog X.w) A (pyNext (.ref z)) Q E s := by
  have hz := (I.hok z _ ez).1
  obtain ⟨its, rv, pt, _⟩ := I.tuple ey
  have mu : Mut (H z) := by rw [ez]; exact True.intro
  refine OvT.next_end calm hz (show s.heap.IsTuple y its.toArray from pt) (by rw [List.getElem?_toArray]; exact rv.none_of hx) fun h' eb ge => hQ _ ?_
  exact I.write (x := z) (e := z) (t' := s.toks) mu (.inl rfl) (fun b o nb g => eb b o nb g) ge (tend_ok ge)
theorem sqT_ne {K : PySem.W.Frag} {H H' : Hp} {a : Addr} {xs : List V} (h : SqT K H a xs) (e : H' a = H a) : SqT K H' a xs := by
  unfold SqT Rd at h ⊢
  rw [e]
  exact h
theorem it_apart (I : Inv X pins σ H s) (ez : H z = some (TItO y z i)) (ey : SqT X.K H y xs) : y ≠ z := fun e => by
  subst e
  obtain ⟨o1, g1, c1, _⟩ := (I.hok y _ ez).1
  obtain ⟨its, rv, ⟨o2, g2, c2, _⟩, _⟩ := I.tuple ey
  rw [g1] at g2
  cases g2
  rw [c1] at c2
  exact absurd c2 (by decide)
theorem tup_lst {q : Addr} {ys : List V} (I : Inv X pins σ H s) (ey : SqT X.K H y xs) (eq_ : H q = some (.lst ys)) : y ≠ q := fun e => by
  subst e
  obtain ⟨_, its1, n1, _, g1⟩ := I.hok y _ eq_
  obtain ⟨its, rv, ⟨o2, g2, c2, _⟩, _⟩ := I.tuple ey
  rw [g1] at g2
  cases g2
  exact absurd (show Value.type "list" = Value.type "tuple" from c2) (by decide)
/-- the rest of a tuple's iterator is put into a list -/
theorem ext_tup {q : Addr} {Rs : Result → Shared → Prop} {A1 : Around} (calm : A1.handled = none) (nq : q ≠ z) (hxs : xs.length < sizeLine) :
    ∀ (n i : Nat) (H : Hp) (s : Shared), n = xs.length - i → i ≤ xs.length → Inv X pins σ H s → H z = some (TItO y z i) → SqT X.K H y xs → H q = some (.lst (xs.take i)) →
      (∀ H' s', (∀ b, b ≠ z → b ≠ q → H' b = H b) → H' z = some (TEnd z) → H' q = some (.lst xs) → Inv X pins σ H' s' → Rs (.ok (.ret .none)) s') →
      codeAny (model X.prog X.w) A1 (.builtin "list.extend.loop" ⟨[.ref q, .ref z, .none], []⟩) Rs s := by
  intro n
  induction n with
  | zero =>
    intro i H s hn hi I ez ey eq_ fin
    have e : i = xs.length := by omega
    subst e
    refine codeAny_builtin PySem.F.entry_extend_loop ?_
    rw [Around.under_plainId PySem.F.plain_extend_loop _]
    show wpAny _ A1.in1 (pyNext (.ref z) >>= _) _ _ s
    refine wpAny_bind (tit_end (A := A1.in1) calm I ez ey (by simp) fun s' I' => ?_)
    refine wpAny_pure (fin (upd H z (TEnd z)) s' (fun b h1 h2 => upd_ne h1) upd_same ?_ I')
    rw [upd_ne nq, eq_, List.take_length]
  | succ n ih =>
    intro i H s hn hi I ez ey eq_ fin
    have hlt : i < xs.length := by omega
    refine codeAny_builtin PySem.F.entry_extend_loop ?_
    rw [Around.under_plainId PySem.F.plain_extend_loop _]
    show wpAny _ A1.in1 (pyNext (.ref z) >>= _) _ _ s
    have yz := it_apart I ez ey
    refine wpAny_bind (tit_item (A := A1.in1) I ez ey (List.getElem?_eq_getElem hlt) fun u s' ru I' => ?_)
    have eq1 : upd H z (TItO y z (i + 1)) q = some (.lst (xs.take i)) := by rw [upd_ne nq]; exact eq_
    obtain ⟨w1, its, k, r2, hl, e⟩ := I'.lstM eq1
    show wpAny _ A1.in1 (updateSeq q (·.push u) >>= _) _ _ _
    have lt := List.length_take_le i xs
    have l2 : (xs.take i).length = i := by rw [List.length_take]; omega
    refine wpAny_bind (wpAny_updateSeq e rfl (wpAny_pure ⟨plainId_quiet PySem.F.plain_extend_loop _, ?_⟩) (by rw [List.size_toArray]; omega) (by show (its.toArray.push u).size ≤ sizeLine + 1; rw [Array.size_push, List.size_toArray]; omega))
    have tk : xs.take (i + 1) = xs.take i ++ [xs[i]] := by rw [List.take_succ, List.getElem?_eq_getElem hlt]; rfl
    have I2 := I'.lset (f := (·.push u)) (its' := its ++ [u]) (ys := xs.take (i + 1)) (t' := s'.toks) eq1 e (by simp) (by rw [tk]; exact r2.append (.cons ru .nil)) (by rw [List.length_take]; omega)
    have yq : y ≠ q := tup_lst I ey eq_
    refine ih (i + 1) _ _ (by omega) hlt I2 ?_ ?_ upd_same ?_
    · rw [upd_ne (Ne.symm nq), upd_same]
    · exact sqT_ne ey (by rw [upd_ne yq, upd_ne yz])
    · intro H' s'' h1 h2 h3 I3
      exact fin H' s'' (fun b nb nb' => by rw [h1 b nb nb', upd_ne nb', upd_ne nb]) h2 h3 I3
end
/-! ### list(o), o an own object whose __iter__ gives a tuple's iterator -/
section
variable {X : Cx} {pins : List (Addr × Obj)} {σ : L2.St} {C : Addr} {k : Nat} {psI psL : List Str} {spI spL : Sp}
/-- what is said of the length: the own __len__ -/
theorem hint_own {A : Around} {a dx : Addr} {fs : List (Str × V)} {H : Hp} {s : Shared} {EL : XK} {Q : Bool → Shared → Prop} {E1 : Value → Shared → Prop} (ML : MCal X.prog X.w X.K X.mg X.base CX0 k C "__len__" psL spL) (hr : Room (k + 1) A) (hf : A.frames = X.A.frames) (I : Inv X pins σ H s)
    (ea : H a = some (.ins C dx fs)) (h : spL [.ref a] H (fun v H' => ∃ n : Nat, v = .int n ∧ n ≤ sizeLine ∧ H' = H) EL) (hQ : ∀ b s', Inv X pins σ H s' → Q b s') : wpAny (model X.prog X.w) A (Builtin.List.listLengthHint (.ref a)) Q E1 s := by
  obtain ⟨f, fd, F, hm, b, fi⟩ := ML
  obtain ⟨mA, J, _⟩ := ins_get I.hok ea
  obtain ⟨od, J, _⟩ := J.look
  obtain ⟨mm, hF⟩ := I.fr
  unfold Builtin.List.listLengthHint
  refine wpAny_bind (wpAny_bind (J.type.here ((PySem.W.looks_findIn I.kIn hm.at_).here ?_)))
  refine PySem.W.KFB.if_not rfl ?_
  refine PySem.W.KFB.if_so rfl ?_
  refine wpAny_bind (wpAny_rule ?_)
  refine wpAny_bind (wpAny_attempt ?_)
  refine PySem.W.len_K hF I.ok.mod.kin J hm.at_ hm.fn ?_
  refine wpAny_mono (run_at0 (A := A.in1) (vs := [.ref a]) F hr.in1 hf b I (.cons rfl .nil) h) (fun r s' z => ?_) fun _ _ x => x
  obtain ⟨v, H', I', rv, n, rfl, hn, eH⟩ := z
  subst eH
  obtain ⟨t, rfl⟩ := rv
  have z := hn
  rw [sizeLine_eq] at z
  refine ⟨by omega, ?_⟩
  show wpAny _ _ _ _ _ _
  refine wpAny_bind (wpAny_pure ?_)
  refine PySem.W.KFB.if_not (by show decide (((n : Int)).toNat > sizeLine) = false; simpa using hn) ?_
  exact wpAny_pure (hQ _ _ (I'.tok _))
/-- list(o): the list at q is new, o's __iter__ runs, the iterator is walked to its end and forgotten -/
def rListO (K : PySem.W.Frag) (C : Addr) (spI spL : Sp) : List V → Hp → VK → Prop := fun xs H Q => ∃ a dx fs, xs = [.ref a] ∧ H a = some (.ins C dx fs) ∧ ∀ q, H q = none →
  spI [.ref a] (upd H q (.lst [])) (fun v H1 => ∃ z y zs, v = .ref z ∧ H1 z = some (TItO y z 0) ∧ SqT K H1 y zs ∧ zs.length < sizeLine ∧ H1 q = some (.lst []) ∧ (∃ dx fs, H1 a = some (.ins C dx fs)) ∧
    spL [.ref a] H1 (fun v H' => ∃ n : Nat, v = .int n ∧ n ≤ sizeLine ∧ H' = H1) E0 ∧ Q (.ref q) (upd (ItX.dropH H1 z) q (.lst zs))) E0
theorem call_listO (MI : MCal X.prog X.w X.K X.mg X.base CX0 k C "__iter__" psI spI) (ML : MCal X.prog X.w X.K X.mg X.base CX0 k C "__len__" psL spL) (hr : Room (k + 3) X.A) : CallR X (.type "list") (rListO X.K C spI spL) := by
  intro pins s σ H xs us Q I rv h
  obtain ⟨a, dx, fs, rfl, ha, hq⟩ := h
  obtain ⟨u, rfl, ru⟩ := vals1 rv
  cases ru
  have r1 : Room (k + 2) X.A.in1 := hr.in1
  have r2 : Room (k + 1) X.A.in1.in1 := r1.in1
  have r3 : Room k X.A.in1.in1 := r2.mono (Nat.le_succ k)
  refine callType_codes (Q₁ := fun obj s₁ => obj = .ref s.heap.objs.size ∧ s₁ = { s with heap := s.heap.push { cls := .type "list", data := .seq #[] } }) PySem.F.called_list (PySem.F.typeCall_list_1 _) PySem.F.entry_list_init (code_list_new _ ⟨rfl, rfl⟩) fun obj s₁ h₁ => ?_
  obtain ⟨rfl, rfl⟩ := h₁
  have hS : (s.heap.push { cls := .type "list", data := .seq #[] }).get? s.heap.objs.size = some { cls := .type "list", data := .seq #[] } := Heap.get?_push_size _ rfl
  refine ⟨⟨_, hS, rfl⟩, PySem.F.args_list_init_2 _ _, ?_⟩
  have fr : H s.heap.objs.size = none := I.hok.fresh (Nat.le_refl _)
  have hsp := hq _ fr
  have I1 : Inv X pins σ (upd H s.heap.objs.size (.lst [])) { s with heap := s.heap.push { cls := .type "list", data := .seq #[] } } := I.lnew (its := []) (t' := s.toks) .nil (Nat.zero_le _)
  show wpAny _ _ (do let old ← Builtin.List.listItems (.ref s.heap.objs.size); Builtin.List.listUpdate (.ref s.heap.objs.size) (fun _ => #[]); letGo old.toList.reverse; Builtin.List.listExtendWith (.ref s.heap.objs.size) (.ref a) .none) _ _ _
  refine wpAny_bind ?_
  unfold Builtin.List.listItems
  refine wpAny_bind (wpAny_seqItems hS rfl (wpAny_pure ?_))
  show wpAny _ _ (updateSeq s.heap.objs.size (fun _ => #[]) >>= fun _ => letGo (#[] : Array Value).toList.reverse >>= fun _ => Builtin.List.listExtendWith (.ref s.heap.objs.size) (.ref a) .none) _ _ _
  refine wpAny_bind (wpAny_updateSeq hS rfl ?_)
  have I2 := I1.lset (f := fun _ => #[]) (its := []) (its' := []) (ys := []) (t' := s.toks) upd_same hS rfl .nil (Nat.zero_le _)
  rw [upd_upd] at I2
  refine wpAny_bind (wpAny_letGo ?_)
  have ha2 : upd H s.heap.objs.size (.lst []) a = some (.ins C dx fs) := by rw [upd_ne (ne_of_none ha fr)]; exact ha
  generalize s.heap.objs.size = q at *
  have hne : q ≠ a := ne_of (upd_same (H := H) (o := .lst [])) ha2 (fun z => nomatch z)
  obtain ⟨fI, fdI, FI, hmI, bI, fiI⟩ := MI
  obtain ⟨mA, J, _⟩ := ins_get I2.hok ha2
  obtain ⟨od, J, _⟩ := J.look
  obtain ⟨m0, hF⟩ := I2.fr
  unfold Builtin.List.listExtendWith
  refine wpAny_bind (J.type.here ?_)
  have h1 : Builtin.List.listSameRef (.ref q) (.ref a) = false := by simp [Builtin.List.listSameRef, hne]
  have h2 : (Value.ref C == Value.type "list") = false := rfl
  have h3 : (Value.ref C == Value.type "tuple") = false := rfl
  simp only [h1, h2, h3, Bool.or_false, Bool.false_eq_true, if_false]
  refine wpAny_bind (PySem.W.owit_iter hF I2.ok.mod.kin J hmI.at_ hmI.fn ?_)
  refine wpAny_mono (run_at0 (A := X.A.in1.in1) (vs := [.ref a]) FI r3 rfl bI I2 (.cons rfl .nil) hsp) (fun r s' zz => ?_) fun _ _ x => x
  obtain ⟨v, H1, I3, rv3, z, y, zs, rfl, ez, ey, hl, eq_, ⟨dx', fs', ea⟩, hL, q3⟩ := zz
  cases rv3
  have hz := (I3.hok z _ ez).1
  unfold PySem.W.OwitIt
  refine wpAny_specialOf hz.typeIs PySem.F.slot_tuple_iterator_next.lookup ?_
  show wpAny _ _ _ _ _ _
  refine wpAny_bind (wpAny_holding (hint_own ML r2 rfl I3 ea hL fun b s4 I4 => ?_))
  have nq : q ≠ z := ne_of eq_ ez (fun w => nomatch w)
  have loop : ∀ s5, Inv X pins σ H1 s5 → codeAny (model X.prog X.w) X.A.in1 (.builtin "list.extend.loop" ⟨[.ref q, .ref z, .none], []⟩) (wants (fun r s₂ => r = .none ∧ EP X pins σ Q (.ref q) s₂) X.xe) s5 := fun s5 I5 => by
    refine ext_tup (A1 := X.A.in1) hr.hd nq hl zs.length 0 H1 s5 (by omega) (Nat.zero_le _) I5 ez ey (by rw [eq_]; rfl) fun H' s6 g1 g2 g3 I6 => ?_
    have I7 := ItX.inv_drop I6 g2
    have eH : ItX.dropH H' z = upd (ItX.dropH H1 z) q (.lst zs) := by
      funext b
      by_cases bz : b = z
      · rw [bz, ItX.dropH_same, upd_ne (Ne.symm nq), ItX.dropH_same]
      · rw [ItX.dropH_ne bz]
        by_cases bq : b = q
        · rw [bq, g3, upd_same]
        · rw [upd_ne bq, ItX.dropH_ne bz, g1 b bz bq]
    rw [eH] at I7
    exact ⟨rfl, .ref q, _, I7, rfl, q3⟩
  obtain ⟨w1, its, kk, r4, hl4, e4⟩ := I4.lstM eq_
  cases r4
  refine wpAny_ite_split (fun _ => ?_) (fun _ => wpAny_pure ⟨plainId_quiet PySem.F.plain_extend_loop _, loop s4 I4⟩)
  refine wpAny_bind (wpAny_rule (wpAny_bind ?_))
  show wpAny _ _ (updateSeq q (·.push .none) >>= fun _ => updateSeq q (·.pop)) _ _ _
  refine wpAny_bind (wpAny_updateSeq e4 rfl ?_)
  have I5 := I4.lset (f := (·.push Value.none)) (its' := [Value.none]) (ys := [.non]) (t' := s4.toks) eq_ e4 (by simp) (.cons rfl .nil) (by rw [List.length_singleton, sizeLine_eq]; decide)
  obtain ⟨w2, its5, k5, r5, hl5, e5⟩ := I5.lstM upd_same
  obtain ⟨u5, rfl, ru5⟩ := r5.one
  refine wpAny_updateSeq e5 rfl ?_ (by show 1 ≤ sizeLine; rw [sizeLine_eq]; decide) (by show 0 ≤ sizeLine + 1; exact Nat.zero_le _)
  refine wpAny_pure ⟨plainId_quiet PySem.F.plain_extend_loop _, loop _ ?_⟩
  have I6 := I5.lset (f := (·.pop)) (its := [u5]) (its' := []) (ys := []) (t' := s4.toks) upd_same e5 (by rfl) .nil (Nat.zero_le _)
  rw [upd_upd] at I6
  have hH : upd H1 q (.lst []) = H1 := by
    funext b
    by_cases hb : b = q
    · rw [hb, upd_same, eq_]
    · rw [upd_ne hb]
  rw [hH] at I6
  exact I6
end
end Ov

set_option Elab.async false
set_option linter.all false
set_option maxRecDepth 100000
set_option maxHeartbeats 2000000
namespace Ov
open PySem PySem.Spec PyProof.Rows L2
/-! ### comparisons and operators of own objects -/
section
variable {X : Cx} {CX : CXT} {k : Nat} {C : Addr} {ps : List Str} {sp : Sp} {E : XK}
def rCmpO (C : Addr) (sp : Sp) (E : XK) : R2 := fun x y H Q => ∃ a dx fs b dy gs, x = .ref a ∧ y = .ref b ∧ H a = some (.ins C dx fs) ∧ H b = some (.ins C dy gs) ∧ sp [.ref a, .ref b] H (fun v H' => (∃ t, v = .bl t) ∧ Q v H') E
theorem back_of {pins : List (Addr × Obj)} {σ : L2.St} {s' : Shared} {Q : VK} {r : Value} (z : EP X pins σ (fun v H' => (∃ t, v = .bl t) ∧ Q v H') r s') : PySem.W.CmpBack (EP X pins σ Q) r s' := by
  obtain ⟨v, H', I', rv, ⟨t, rfl⟩, q⟩ := z
  obtain rfl : r = Value.bool t := rv
  exact ⟨.bl t, H', I', rfl, q⟩
theorem rich_own {op : CmpOp} {m : Str} (em : (cmpInfo op).2.1 = m) (M : MCal X.prog X.w X.K X.mg X.base CX k C m ps sp) (hr : Room k X.A) (hx : Passes CX X E) {pins : List (Addr × Obj)} {s : Shared} {σ : L2.St} {H : Hp} {x y : V} {v u : Value} {Q : VK} (I : Inv X pins σ H s) (rx : RelV x v) (ry : RelV y u) (h : rCmpO C sp E x y H Q) :
    wpAny (model X.prog X.w) X.A (richCompare op v u) (EP X pins σ Q) X.xe s := by
  obtain ⟨a, dx, fs, b, dy, gs, rfl, rfl, ha, hb, h⟩ := h
  obtain rfl : v = Value.ref a := rx
  obtain rfl : u = Value.ref b := ry
  obtain ⟨f, fd, F, hm, bd, fi⟩ := M
  obtain ⟨mA, J, _⟩ := ins_get I.hok ha
  obtain ⟨od, J, _⟩ := J.look
  obtain ⟨mB, J2, _⟩ := ins_get I.hok hb
  obtain ⟨od2, J2, _⟩ := J2.look
  obtain ⟨mm, hF⟩ := I.fr
  refine PySem.W.cmp_K (op := op) (tb := .ref C) hr.units0 hF I.ok.mod.kin J J2.type (by simp [PySem.W.notFirst]) (by rw [em]; exact hm.at_) hm.fn ?_
  exact wpAny_mono (run_atS (A := X.A) (vs := [.ref a, .ref b]) F hr rfl bd (pAtP hx) I (.cons rfl (.cons rfl .nil)) h) (fun r s' z => back_of z) fun _ _ x => x
theorem op_eqO (M : MCal X.prog X.w X.K X.mg X.base CX k C "__eq__" ps sp) (hr : Room k X.A) (hx : Passes CX X E) : OpR X (compareOp .Eq) (rCmpO C sp E) := fun pins s σ H x y v u Q I rx ry h => rich_own (op := .Eq) rfl M hr hx I rx ry h
theorem op_ltO (M : MCal X.prog X.w X.K X.mg X.base CX k C "__lt__" ps sp) (hr : Room k X.A) (hx : Passes CX X E) : OpR X (compareOp .Lt) (rCmpO C sp E) := fun pins s σ H x y v u Q I rx ry h => rich_own (op := .Lt) rfl M hr hx I rx ry h
theorem op_leO (M : MCal X.prog X.w X.K X.mg X.base CX k C "__le__" ps sp) (hr : Room k X.A) (hx : Passes CX X E) : OpR X (compareOp .LtE) (rCmpO C sp E) := fun pins s σ H x y v u Q I rx ry h => rich_own (op := .LtE) rfl M hr hx I rx ry h
theorem op_gtO (M : MCal X.prog X.w X.K X.mg X.base CX k C "__gt__" ps sp) (hr : Room k X.A) (hx : Passes CX X E) : OpR X (compareOp .Gt) (rCmpO C sp E) := fun pins s σ H x y v u Q I rx ry h => rich_own (op := .Gt) rfl M hr hx I rx ry h
theorem op_geO (M : MCal X.prog X.w X.K X.mg X.base CX k C "__ge__" ps sp) (hr : Room k X.A) (hx : Passes CX X E) : OpR X (compareOp .GtE) (rCmpO C sp E) := fun pins s σ H x y v u Q I rx ry h => rich_own (op := .GtE) rfl M hr hx I rx ry h
/-- a + b of two own objects of one class -/
def rBinO (C : Addr) (sp : Sp) (E : XK) : R2 := fun x y H Q => ∃ a dx fs b dy gs, x = .ref a ∧ y = .ref b ∧ H a = some (.ins C dx fs) ∧ H b = some (.ins C dy gs) ∧ sp [.ref a, .ref b] H (fun v H' => (∃ c, v = .ref c) ∧ Q v H') E
theorem op_binO {op : Operator} {m : Str} (em : PySem.dunder op.info.2 = m) (hc : PySem.W.selfFirst X.K C = true) (M : MCal X.prog X.w X.K X.mg X.base CX k C m ps sp) (hr : Room k X.A) (hx : Passes CX X E) : OpR X (binaryOp op) (rBinO C sp E) := by
  intro pins s σ H x y v u Q I rx ry h
  obtain ⟨a, dx, fs, b, dy, gs, rfl, rfl, ha, hb, h⟩ := h
  obtain rfl : v = Value.ref a := rx
  obtain rfl : u = Value.ref b := ry
  obtain ⟨f, fd, F, hm, bd, fi⟩ := M
  obtain ⟨mA, J, _⟩ := ins_get I.hok ha
  obtain ⟨od, J, _⟩ := J.look
  obtain ⟨mB, J2, _⟩ := ins_get I.hok hb
  obtain ⟨od2, J2, _⟩ := J2.look
  obtain ⟨mm, hF⟩ := I.fr
  refine PySem.W.binop_K (op := op) hF I.ok.mod.kin J J2.type hc (by rw [em]; exact hm.at_) hm.fn ?_
  refine wpAny_mono (run_atS (A := X.A) (vs := [.ref a, .ref b]) F hr rfl bd (pAtP hx) I (.cons rfl (.cons rfl .nil)) h) (fun r s' z => ?_) fun _ _ x => x
  obtain ⟨v, H', I', rv, ⟨c, rfl⟩, q⟩ := z
  obtain rfl : r = Value.ref c := rv
  exact ⟨.ref c, H', I', rfl, q⟩
end
/-! ### isinstance with own classes -/
/-- what a class must say, so that isinstance asks its instances rightly -/
structure InsC (K : PySem.W.Frag) (C : Addr) : Prop where
  cl : Cls K C
  ha : PySem.W.findIn K (.ref C) "__class__" = some (some (.builtin "object.__class__"))
  hn : PySem.W.specialIn K (.builtin "object.__class__") "__get__" = some (some (.builtin "getset_descriptor.__get__"))
  ht : PySem.W.takesIn K (.builtin "object.__class__") = some true
  hm : PySem.W.mroIn K C (.type "object") = some true
/-- isinstance(x, C) of an instance of C -/
def rIsO (K : PySem.W.Frag) : List V → Hp → VK → Prop := fun xs H Q => ∃ a C D dx fs b, xs = [.ref a, .ref D] ∧ H a = some (.ins C dx fs) ∧ InsC K C ∧ PySem.W.kitOne K (.ref C) (.ref D) = some b ∧ Q (.bl b) H
theorem call_isO {X : Cx} : CallR X (.builtin "isinstance") (rIsO X.K) := by
  intro pins s σ H xs us Q I r h
  obtain ⟨a, C, D, dx, fs, b, rfl, ha, c, kt, q⟩ := h
  exact call_isi pins s σ H _ us Q I r ⟨_, _, _, _, b, rfl, .own D, .base (.ins ha c.cl c.ha c.hn c.ht c.hm), kt, q⟩
def cIsiO (K : PySem.W.Frag) : List V → Hp → VK → Prop := fun xs H Q => cIsi K xs H Q ∨ rIsO K xs H Q
theorem call_cIsiO {X : Cx} : CallR X (.builtin "isinstance") (cIsiO X.K) := CallR.or call_cIsi call_isO
/-! ### defs that are called within an except suite with the exception, and raise nothing -/
abbrev SpX := Addr → Value → Option Addr → Sp
structure FnX (P : Program) (w : World) (K : PySem.W.Frag) (mg : Str → Option Value) (base : Heap) (k : Nat) (f : Addr) (fd : FuncData) (ps : List Str) (sp : SpX) : Prop where
  len : ∀ a cls d vs H Q E, sp a cls d vs H Q E → vs.length = ps.length
  run : ∀ (A : Around) (outer : List Env) (s : Shared) (H : Hp) (args : Args) (us : List Value) (vs : List V) (Q : VK) (E : XK) (a : Addr) (oe : Obj) (cls : Value) (d : Option Addr), L2H.RoomH k A → L2H.PinOk outer H s (a, oe) → Zc cls d oe → (∃ ws, oe.data = .fields ws) →
    Env0 P w K mg base A outer s H → BindsTo s fd args (ps.zip us) → Vals vs us → sp a cls d vs H Q E → codeAny (model P w) A (.call (.ref f) args) (CR CX0 outer P w H s Q E) s
def CalX (P : Program) (w : World) (K : PySem.W.Frag) (mg : Str → Option Value) (base : Heap) (k : Nat) (x : Str) (ps : List Str) (sp : SpX) : Prop :=
  ∃ (f : Addr) (fd : FuncData), FnX P w K mg base k f fd ps sp ∧ mg x = some (.ref f) ∧ PySem.W.keepIn K (.ref f) = true ∧ Binds K fd ps []
theorem Has.okH {P : Program} {w : World} {K : PySem.W.Frag} {mg : Str → Option Value} {base : Heap} {x : Str} {st : Stmt} {N ps : List Str} {k : Nat} {sp : SpX} (h : Has K mg x st ps) (S : FnScope N ps (defScope st)) (len : ∀ a cls d vs H Q E, sp a cls d vs H Q E → vs.length = ps.length)
    (hbody : ∀ (f : Addr) (cdv : Value) (A : Around) (outer : List Env) (s : Shared) (H : Hp) (vs : List V) (Q : VK) (E : XK) (a : Addr) (oe : Obj) (cls : Value) (d : Option Addr), L2H.RoomH k (A.deeper (envOfC x (defScope st) s.heap.objs.size f cdv)) → Zc cls d oe → (∃ ws, oe.data = .fields ws) → sp a cls d vs H Q E →
      ∃ t, PSs (L2H.cxH CX0 P w K mg base N x (defScope st) f cdv A outer s H E (a, oe)) (defBody st) t ∧ t { nx := fun _ H' => Q .non H', rt := Q } (start N vs) H) : CalX P w K mg base (k + 1) x ps sp := by
  obtain ⟨f, fd, F, m, b⟩ := h
  refine ⟨f, fd, ⟨len, fun A outer s H args us vs Q E a oe cls d hr pin hz hf e0 hb r hsp => ?_⟩, m, F.kp, .all b⟩
  obtain ⟨oc, od, kV, doc, pm, an, cdv, ct, osl, rfl, lk, hcd⟩ := F.ex
  have hl := len _ _ _ _ _ _ _ hsp
  have KX : K.In s.heap := e0.mod.kin.keeps fun b o e => (e0.bs b o e).1
  have lim : s.heap.NoLimit := e0.mod.nolimit.keeps fun b o e => (e0.bs b o e).1
  have hkind : ∀ y ∈ ps.zip us, (defScope st).names.lookup y.1 = some .local ∨ ((defScope st).names.lookup y.1 = some .cell ∧ ((cellsFrom (s.heap.objs.size + 1) (defScope st).names []).lookup y.1).isSome = true) := fun ⟨n, v⟩ hy => by
    rcases S.par n (List.of_mem_zip hy).1 with q | q
    · exact Or.inl q
    · exact Or.inr ⟨q, PySem.W.cellsFrom_some _ _ _ (.inl q)⟩
  refine codeAny_call_function hr.depth (KX _ _ lk) rfl S.co S.gen rfl (PySem.W.codeRec_of KX hcd) (hb _ _ _ _ ?_)
  refine wpAny_newFunctionEnv_cells S.kind hkind fun env he s1 x1 => ?_
  subst he
  refine ⟨lim.keeps x1.toInCall.keep, codeAny_func ?_⟩
  obtain ⟨t, ht, hq⟩ := hbody f cdv A outer s H vs Q E a oe cls d (hr.deeper _) hz hf hsp
  have I : Inv (L2H.cxH CX0 P w K mg base N x (defScope st) f cdv A outer s H E (a, oe)) [] (L2.start N vs) H s1 := L2H.inv_startH S pin e0 hl r x1
  refine wpAny_mono (ht.run [] s1 (L2.start N vs) H _ I hq) (fun fl s' hs => ?_) fun e s' hs => hs
  have fin : ∀ {σ' : L2.St} {H' : Hp} {v : V} {u : Value}, Inv (L2H.cxH CX0 P w K mg base N x (defScope st) f cdv A outer s H E (a, oe)) [] σ' H' s' → RelV v u → Q v H' → CE outer P w H s Q u s' :=
    fun {σ' H' v u} J rv q => ⟨v, H', J.os, J.bare, J.base, J.hok, rv, q⟩
  cases fl with
  | ret u =>
    obtain ⟨v, σ', H', J, rv, q⟩ := hs
    exact fin J rv q
  | next =>
    obtain ⟨σ', H', J, q⟩ := hs
    exact fin (v := V.non) (u := Value.none) J rfl q
  | brk =>
    obtain ⟨_, _, _, q⟩ := hs
    exact False.elim q
  | cont =>
    obtain ⟨_, _, _, q⟩ := hs
    exact False.elim q
/-- such a call within the suite -/
def tCallX (sp : SpX) (a : Addr) (cls : Value) (d : Option Addr) (t : TA) : TE := fun σ H Q => t σ H fun vs H1 => sp a cls d vs H1 Q E0
theorem pe_callX {X : Cx} {k : Nat} {x : Str} {ps : List Str} {sp : SpX} {a : Addr} {oe : Obj} {cls : Value} {d : Option Addr} {pn : List (Addr × Obj)} {q pos : Pos} {e : Expr} {es : List Expr} {t : TA} (c : CalX X.prog X.w X.K X.mg X.base k x ps sp) (hr : Room k X.A)
    (hz : Zc cls d oe) (hf : ∃ ws, oe.data = .fields ws) (hg : Gl (X.suite a ((a, oe) :: pn)) x) (ha : PA (X.suite a ((a, oe) :: pn)) (e :: es) t) (hdb : (x == ("__debug__" : Str)) = false := by decide)
    (he : starEach (e :: es) X.env = (false, eval e X.env) :: starEach es X.env := by rfl) (hpl : (backTo pos (starEach es X.env)).any (·.1) = false := by rfl) : PE (X.suite a ((a, oe) :: pn)) (.Call (.Name x q) (e :: es) [] pos) (tCallX sp a cls d t) := by
  obtain ⟨f, fd, F, m, kp, b⟩ := c
  refine ⟨fun pins s σ H Q I h => wpAny_Call_Name_kw (ld_glob I hg m ?_ hdb)⟩
  refine PySem.W.callWith_K (h₀ := X.base) I.ok.mod.kin kp (thn (ha.run pos pins s σ H _ I h) fun us s1 ⟨vs, H1, I1, r, z⟩ => ⟨I1.kIn, ?_⟩) he hpl
  have hl : us.length = ps.length := by rw [← r.length]; exact F.len _ _ _ _ _ _ _ z
  have bd := b s1 us I1.kIn (by simpa using hl)
  have P1 := I1.pin (a, oe) (List.mem_append_left _ List.mem_cons_self)
  have hpin : L2H.PinOk (X.suite a ((a, oe) :: pn)).stack H1 s1 (a, oe) := ⟨P1.1, P1.2.1, fun hm => (List.mem_cons.mp (I1.stkSub a hm)).elim P1.2.2.1 P1.2.2.2.1, P1.2.2.2.2⟩
  refine wpAny_call (codeAny_mono (F.run (X.suite a ((a, oe) :: pn)).A _ s1 H1 ⟨us, []⟩ us vs Q E0 a oe cls d ⟨hr.dp, hr.un⟩ hpin hz hf I1.env0 (by simpa using bd) r z) fun r s' y => ?_)
  cases r with
  | error e => exact y.elim
  | ok fl =>
    cases fl with
    | ret u => exact I1.after y
    | next => exact y.elim
    | brk => exact y.elim
    | cont => exact y.elim
/-- isinstance(e, c) in such a def -/
theorem call_isP {X : Cx} {a : Addr} {cls : Value} {d : Option Addr} {oe : Obj} (hp : (a, oe) ∈ X.pn) (hz : Zc cls d oe) (hf : ∃ vs, oe.data = .fields vs) : CallR X (.builtin "isinstance") (rIsX X.K a cls d) := by
  intro pins s σ H xs us Q I r h
  obtain ⟨D, dd, fs, rfl, rfl, hdd, C, h⟩ := h
  obtain ⟨ha, _⟩ := I.pin (a, oe) (List.mem_append_left _ hp)
  obtain ⟨vs, hd⟩ := hf
  obtain ⟨mA, hns, _⟩ := (show ObjOk X.prog X.w H s.heap dd (.xd fs) from I.hok dd _ hdd)
  obtain ⟨od, ho, _⟩ := lookIn_ns hns
  have J : PySem.W.InstAt s.heap a oe D (some od) := ⟨ha, hz.1, by unfold PySem.W.notCls; rw [hd] <;> rfl, by rw [hz.2]; exact ho⟩
  have hcl : (PySem.W.clsIn X.K D).isSome = true := by
    have z := C.hd
    unfold PySem.W.hasDictIn at z
    obtain ⟨cd, hcd, _⟩ := PySem.W.any_some z
    rw [hcd] <;> rfl
  have Z := PySem.W.kitx_exc (x := a) (ox := oe) (od := some od) hcl C.hg C.hk C.hs C.ha C.hn C.ht C.hm
  rcases h with ⟨c, u, b, rfl, hc, e, q⟩ | ⟨tp, cs, ws, b, rfl, hT, k, e, q⟩
  · obtain ⟨u1, u2, rfl, r1, r2⟩ := vals2 r
    have e1 : u1 = .ref a := r1
    subst e1
    have e2 := hc.eq r2
    subst e2
    exact PySem.W.kia_one Z I.kIn J e (fun z => nomatch z) fun tk => ⟨.bl b, H, I.tok tk, rfl, q⟩
  · obtain ⟨u1, u2, rfl, r1, r2⟩ := vals2 r
    have e1 : u1 = .ref a := r1
    subst e1
    cases (show u2 = Value.ref tp from r2)
    obtain ⟨_, its, rv, o, h1, h2, n, h3⟩ := (show ObjOk X.prog X.w H s.heap tp (.tup cs) from I.hok tp _ hT)
    have e3 := ClsV.all k rv
    subst e3
    obtain ⟨oc, od', dt, sl⟩ := o
    simp only at h2 h3
    subst h2 h3
    exact PySem.W.kia_tup Z I.kIn J h1 e (fun z => nomatch z) fun tk => ⟨.bl b, H, I.tok tk, rfl, q⟩
theorem passN {X : Cx} : Passes (L2.CX X.prog X.w) X E0 := fun pins σ H s e s' I c => pAtN (σ := σ) pins H s e s' I c
/-! ### texts and numbers -/
def cStr : List V → Hp → VK → Prop := fun xs H Q => ∃ i, xs = [.int i] ∧ i.natAbs.log2 < 1920 ∧ Q (.str (toString i)) H
theorem call_cStr {X : Cx} : CallR X (.type "str") cStr := call_str_int
def cIntX : List V → Hp → VK → Prop := fun xs H Q => cInt xs H Q ∨ ∃ a n, xs = [.str a] ∧ PySem.intText? a = some n ∧ a.length ≤ 640 ∧ Q (.int n) H
theorem call_cIntX {X : Cx} : CallR X (.type "int") cIntX := CallR.or call_cInt call_int_str
def rFind : V → List V → Hp → VK → Prop := fun x xs H Q => ∃ a b, x = .str a ∧ xs = [.str b] ∧ Q (.int (Txt.find a b)) H
theorem mt_oFind {X : Cx} : MtR X "str.find" rFind := mt_find
def rJoin (K : PySem.W.Frag) : V → List V → Hp → VK → Prop := fun x xs H Q => ∃ a p, ∃ ys : List Str, x = .str a ∧ xs = [.ref p] ∧ (SqL K H p (ys.map V.str) ∨ SqT K H p (ys.map V.str)) ∧ (ys.map (·.length)).sum + ys.length * a.length ≤ 16777216 ∧ Q (.str (Txt.join a ys)) H
theorem mt_oJoin {X : Cx} : MtR X "str.join" (rJoin X.K) := mt_join
theorem call_listO2 {X : Cx} {C : Addr} {j1 j2 : Nat} {psI psL : List Str} {spI spL : Sp} (MI : MCal X.prog X.w X.K X.mg X.base CX0 j1 C "__iter__" psI spI) (ML : MCal X.prog X.w X.K X.mg X.base CX0 j2 C "__len__" psL spL) (hr : Room (j1 + j2 + 3) X.A) : CallR X (.type "list") (rListO X.K C spI spL) :=
  call_listO (MI.mono (Nat.le_add_right j1 j2)) (ML.mono (Nat.le_add_left j2 j1)) hr
theorem khas_mk {K : PySem.W.Frag} {C : Addr} {m q : Str} {st : Stmt} {ps : List Str} {p f : Addr} {oc : Value} {od an : Option Addr} {osl : Array (Option Value)} {kV doc pm cdv ct : Value} {rest : List Value}
    (a : PySem.W.findCls K (.ref C) (.type "type") m = some (.get (.builtin "classmethod.__get__") (.ref p) .none (.ref C))) (rc : PySem.W.recIn K p "classmethod" = some (.ref f :: rest)) (l : K.lookup f = some ⟨oc, od, .func (PySem.W.fnOf m q (defArgs st) (defBody st) (defScope st) .none kV doc pm an cdv ct), osl⟩)
    (c : PySem.W.codeIn K cdv q = true) (k : PySem.W.keepIn K (.ref f) = true)
    (hb : ∀ (kV doc pm : Value) (an : Option Addr) (cdv ct : Value) (us : List Value), us.length = ps.length → bindArgs (PySem.W.fnOf m q (defArgs st) (defBody st) (defScope st) .none kV doc pm an cdv ct) ⟨us, []⟩ = pure (ps.zip us)) : KHas K C m q st ps :=
  ⟨p, f, _, fun_mk l c k, ⟨a, ⟨rest, rc⟩, fn_in l⟩, hb kV doc pm an cdv ct⟩
/-! ### steps -/
section
variable {σ : L2.St} {H : Hp} {D : Ends} {te ta tb : TE} {al : TA} {Q : VK} {C a : Addr} {sp : Sp} {E : L2.St → XK} {m : Str} {i : Nat} {K : PySem.W.Frag} {g : TG} {t : TS}
theorem q_makeS (h : al σ H fun vs H1 => ∀ x dx, H1 x = none → H1 dx = none → dx ≠ x → sp (.ref x :: vs) (upd (upd H1 dx (.own x)) x (.ins C dx [])) (fun v H2 => v = .non ∧ Q (.ref x) H2) (E σ)) : tMakeS C sp E al σ H Q := h
theorem q_makeV (hs : σ[i]? = some (some (.ref C))) (h : tMakeS C sp E al σ H Q) : tMakeV i C sp E al σ H Q := ⟨hs, h⟩
theorem q_methS (h : ta σ H fun x H1 => ∃ a dx fs, x = .ref a ∧ H1 a = some (.ins C dx fs) ∧ fs.lookup m = none ∧ al σ H1 fun vs H2 => sp (x :: vs) H2 Q (E σ)) : tMethS C m sp E ta al σ H Q := h
theorem q_kmeth (h : ta σ H fun x H1 => x = .ref C ∧ al σ H1 fun vs H2 => sp (.ref C :: vs) H2 Q (E σ)) : tKMeth C sp E ta al σ H Q := h
theorem q_m1 {r : V → List V → Hp → VK → Prop} (h : ta σ H fun x H1 => (∃ a, x = .str a) ∧ tb σ H1 fun y H2 => r x [y] H2 Q) : tM1 r ta tb σ H Q := h
theorem q_isO {x D : Addr} {dx : Addr} {fs : List (Str × V)} (b : Bool) (hx : H x = some (.ins C dx fs)) (c : InsC K C) (kt : PySem.W.kitOne K (.ref C) (.ref D) = some b) (h : Q (.bl b) H) : cIsiO K [.ref x, .ref D] H Q := .inr ⟨x, C, D, dx, fs, b, rfl, hx, c, kt, h⟩
theorem q_isiO {x : V} {n : String} (b : Bool) (hn : n ∈ tyNames) (ht : isTy x H n b) (h : Q (.bl b) H) : cIsiO K [x, .ty n] H Q := .inl ⟨x, n, b, rfl, hn, ht, h⟩
/-- for i, x in enumerate(xs), xs a list (b) or a tuple: the turn's pair is new at T -/
def SqB (K : PySem.W.Frag) (b : Bool) (H : Hp) (a : Addr) (xs : List V) : Prop := if b = true then SqL K H a xs else SqT K H a xs
theorem q_forE {b : Bool} {xs : List V} (Pv : Nat → L2.St → Hp → Prop) (e : al σ H fun vs H1 => vs = [.ref a] ∧ SqB K b H1 a xs ∧ Pv 0 σ H1) (hl : ∀ i σ H, i ≤ xs.length → Pv i σ H → SqB K b H a xs)
    (hs : ∀ i x σ H T, xs[i]? = some x → Pv i σ H → H T = none → g (.ref T) σ (upd H T (.tup [.int (i : Nat), x])) fun σ2 H2 => t { D with nx := Pv (i + 1), ct := Pv (i + 1), bk := D.nx } σ2 H2) (hd : ∀ σ H, Pv xs.length σ H → D.nx σ H)
    (mono : ∀ {Q1 Q2 : List V → Hp → Prop}, (∀ vs H1, Q1 vs H1 → Q2 vs H1) → al σ H Q1 → al σ H Q2) : tFor (iEnumA K al) g t D σ H := by
  refine mono (fun vs H1 z => ?_) e
  obtain ⟨rfl, hq, p0⟩ := z
  refine ⟨a, xs, rfl, ?_⟩
  cases b with
  | true =>
    refine .inl ⟨hq, for_it walk_enum Pv p0 (fun i σ H hi p => hl i σ H hi p) (fun i x σ H H' hi p y => ?_) hd⟩
    obtain ⟨T, x1, y1, rfl, hT, rfl, e1, e2⟩ := y
    cases e1
    exact hs i y1 σ H T e2 p hT
  | false =>
    refine .inr ⟨hq, for_it walk_enumT Pv p0 (fun i σ H hi p => hl i σ H hi p) (fun i x σ H H' hi p y => ?_) hd⟩
    obtain ⟨T, x1, y1, rfl, hT, rfl, e1, e2⟩ := y
    cases e1
    exact hs i y1 σ H T e2 p hT
theorem q_forEV {b : Bool} {k : Nat} {xs : List V} (ev : σ[k]? = some (some (.ref a))) (Pv : Nat → L2.St → Hp → Prop) (h0 : Pv 0 σ H) (hl : ∀ i σ H, i ≤ xs.length → Pv i σ H → SqB K b H a xs)
    (hs : ∀ i x σ H T, xs[i]? = some x → Pv i σ H → H T = none → g (.ref T) σ (upd H T (.tup [.int (i : Nat), x])) fun σ2 H2 => t { D with nx := Pv (i + 1), ct := Pv (i + 1), bk := D.nx } σ2 H2) (hd : ∀ σ H, Pv xs.length σ H → D.nx σ H) : tFor (iEnumA K (tCons (tVar k) tNil)) g t D σ H :=
  q_forE Pv ⟨_, ev, rfl, hl 0 _ _ (Nat.zero_le _) h0, h0⟩ hl hs hd fun {Q1 Q2} f z => by
    obtain ⟨v, hv, q⟩ := z
    exact ⟨v, hv, f _ _ q⟩
end
end Ov

set_option Elab.async false
set_option linter.all false
set_option maxRecDepth 100000
set_option maxHeartbeats 2000000
namespace Ov
open PySem PySem.Spec PyProof.Rows L2
/-! ### != of own objects that have == alone -/
theorem ifBound_B {M : Model} {A : Around} {E : Value → Shared → Prop} {s : Shared} {K : PySem.W.Frag} {x C : Addr} {ox : Obj} {od : Option Obj} {name : Str} {id : String} {args : List Value} {Q : Option Value → Shared → Prop} (X : K.In s.heap) (I : PySem.W.InstAt s.heap x ox C od)
    (hs : PySem.W.findIn K (.ref C) name = some (some (.builtin id))) (hb : ∀ v : Value, bindSpecial (.builtin id) v = pure (.builtin id, [v])) (h : wpAny M A (call (.builtin id) (.ref x :: args)) (fun v => Q (some v)) E s) : wpAny M A (callSpecialIfBound? (.ref x) name args) Q E s := by
  simp only [callSpecialIfBound?, bindSpecialIfBound?]
  have looked := PySem.W.looks_findIn (M := M) X hs
  refine wpAny_holding (wpAny_bind (wpAny_bind (wpAny_bind (I.type.here (looked.here ?_)))))
  have fin : wpAny M A (call (.builtin id) ([.ref x] ++ args) >>= fun v => pure (some v)) Q E s := wpAny_bind (wpAny_mono h (fun v s' z => wpAny_pure z) fun _ _ z => z)
  refine wpAny_bind (wpAny_askSetting (wpAny_ite ?_))
  rw [hb]
  split
  · exact wpAny_bind (wpAny_pure (wpAny_pure (by exact fin)))
  · exact wpAny_tryCatch (wpAny_bind (wpAny_pure (wpAny_pure (by exact fin))))
def rNeO (C : Addr) (sp : Sp) (E : XK) : R2 := fun x y H Q => ∃ a dx fs b dy gs, x = .ref a ∧ y = .ref b ∧ H a = some (.ins C dx fs) ∧ H b = some (.ins C dy gs) ∧ sp [.ref a, .ref b] H (fun v H' => ∃ t, v = .bl t ∧ Q (.bl (!t)) H') E
theorem op_neO {X : Cx} {CX : CXT} {k : Nat} {C : Addr} {ps : List Str} {sp : Sp} {E : XK} (hn : PySem.W.findIn X.K (.ref C) "__ne__" = some (some (.builtin "object.__ne__"))) (hm0 : PySem.W.mroIn X.K C (.type "object") = some true) (M : MCal X.prog X.w X.K X.mg X.base CX k C "__eq__" ps sp) (hr : Room (k + 1) X.A) (hx : Passes CX X E) : OpR X (compareOp .NotEq) (rNeO C sp E) := by
  intro pins s σ H x y v u Q I rx ry h
  obtain ⟨a, dx, fs, b, dy, gs, rfl, rfl, ha, hb, h⟩ := h
  obtain rfl : v = Value.ref a := rx
  obtain rfl : u = Value.ref b := ry
  obtain ⟨f, fd, F, hm, bd, fi⟩ := M
  obtain ⟨mA, J, _⟩ := ins_get I.hok ha
  obtain ⟨od, J, _⟩ := J.look
  obtain ⟨mB, J2, _⟩ := ins_get I.hok hb
  obtain ⟨od2, J2, _⟩ := J2.look
  show wpAny (model X.prog X.w) X.A (richCompare .NotEq (.ref a) (.ref b)) (EP X pins σ Q) X.xe s
  have one : wpAny (model X.prog X.w) X.A (tryCompare (.ref a) (cmpInfo .NotEq).2.1 (.ref b)) (fun r s' => ∃ v, r = some v ∧ EP X pins σ Q v s') X.xe s := by
    unfold tryCompare
    refine wpAny_bind (ifBound_B I.kIn J hn (fun v => PySem.F.slot_object_ne.bind v) ?_)
    refine wpAny_call (codeAny_call_builtin PySem.F.slot_object_ne.plain PySem.F.entry_object_ne ?_)
    refine @PySem.W.check_slot (model X.prog X.w) _ _ s "object.__ne__" "object" "__ne__" (.ref a) [.ref b] [] _ (by decide +kernel) (by decide +kernel) (J.type.andThen (PySem.W.looks_mroIn I.kIn hm0)) (PySem.F.args_object_ne_2 _ _) ?_
    unfold Builtin.«object.__ne__»
    refine wpAny_bind (wpAny_of_eq (a := ((Value.ref a : Value), [Value.ref b])) (by first | rfl | (simp only [slotArgs]; rfl)) ?_)
    refine wpAny_bind (wpAny_cRoomFor (hr.in1).units0 ?_)
    refine wpAny_bind (PySem.W.ifBound_K I.kIn J hm.at_ hm.fn ?_)
    refine wpAny_mono (run_atS (A := X.A.in1) (vs := [.ref a, .ref b]) F hr.in1 rfl bd (pAtP hx) I (.cons rfl (.cons rfl .nil)) h) (fun r s' z => ?_) fun _ _ x => x
    obtain ⟨v, H', I', rv, t, rfl, q⟩ := z
    obtain rfl : r = Value.bool t := rv
    refine wpAny_bind (wpAny_truthy_bool ?_)
    exact wpAny_pure (wpAny_pure ⟨_, rfl, .bl (!t), H', I', rfl, q⟩)
  unfold richCompare
  simp only [oneThing_ref]
  refine wpAny_holding (wpAny_bind (wpAny_cRoomFor hr.units0 ?_))
  refine wpAny_bind (J.type.here (wpAny_bind (J2.type.here ?_)))
  split
  · rename_i q
    simp at q
  · refine wpAny_bind (wpAny_pure ?_)
    simp only [Bool.false_eq_true, if_false]
    refine wpAny_bind (wpAny_mono one (fun r s' z => ?_) fun _ _ e => e)
    obtain ⟨v, rfl, hq⟩ := z
    exact wpAny_pure hq
/-! ### the order of (a length, a tuple of ints) -/
def lexp (p : Int → Int → Bool) (z : Bool) : List Int → List Int → Bool
  | x :: xs, y :: ys => if x = y then lexp p z xs ys else p x y
  | _, _ => z
def kcmp (p : Int → Int → Bool) (z : Bool) (ns ms : List Int) : Bool := if ns.length = ms.length then lexp p z ns ms else p ns.length ms.length
theorem dpK {K : PySem.W.Frag} {H : Hp} : ∀ ns : List Int, DpAll K H (ns.map V.int) (ns.map PyData.int)
  | [] => .nil
  | n :: r => .cons (.int n) (dpK r)
theorem layK : ∀ ns : List Int, PyData.canLayAll0 (ns.map PyData.int) = true
  | [] => rfl
  | n :: r => by
    rw [List.map_cons]
    simp only [PyData.canLayAll0, PyData.canLay0, Bool.true_and]
    exact layK r
theorem depK : ∀ ns : List Int, PyData.depthAll (ns.map PyData.int) ≤ 1
  | [] => by simp [PyData.depthAll]
  | n :: r => by
    rw [List.map_cons]
    have := depK r
    simp only [PyData.depthAll, PyData.depth]
    omega
theorem shapedT (ns : List Int) : SeqAt.shaped (.tuple (ns.map PyData.int)) = true := by
  have h1 := layK ns
  have h2 := depK ns
  unfold SeqAt.shaped
  rw [Bool.and_eq_true]
  refine ⟨?_, decide_eq_true ?_⟩
  · simp only [PyData.canLay0]
    exact h1
  · simp only [PyData.depth]
    omega
theorem eqvAllK : ∀ ns ms : List Int, PyData.eqvAll (ns.map PyData.int) (ms.map PyData.int) = decide (ns = ms)
  | [], [] => by simp [PyData.eqvAll]
  | [], m :: ms => by simp [PyData.eqvAll]
  | n :: ns, [] => by simp [PyData.eqvAll]
  | n :: ns, m :: ms => by
    rw [List.map_cons, List.map_cons, PyData.eqvAll, eqvAllK ns ms]
    by_cases h : n = m
    · subst h
      simp [PyData.eqv]
    · have e : (n == m) = false := by simpa using h
      simp [PyData.eqv, e, h]
theorem eqvK (ns ms : List Int) : PyData.eqv (.tuple (ns.map PyData.int)) (.tuple (ms.map PyData.int)) = decide (ns = ms) := by
  rw [PyData.eqv]
  exact eqvAllK ns ms
theorem lexAt_shift (e r : Nat → Bool) (z : Bool) : ∀ (k i : Nat), Ob.lexAt e r z (i + 1) k = Ob.lexAt (fun j => e (j + 1)) (fun j => r (j + 1)) z i k
  | 0, _ => rfl
  | k + 1, i => by
    rw [Ob.lexAt_succ, Ob.lexAt_succ, lexAt_shift e r z k (i + 1)]
theorem lexAt_eq (p : Int → Int → Bool) (z : Bool) : ∀ ns ms : List Int, ns.length = ms.length → Ob.lexAt (fun j => decide (ns.getD j 0 = ms.getD j 0)) (fun j => p (ns.getD j 0) (ms.getD j 0)) z 0 ns.length = lexp p z ns ms
  | [], [], _ => rfl
  | [], _ :: _, h => by cases h
  | _ :: _, [], h => by cases h
  | n :: ns, m :: ms, h => by
    have ih := lexAt_eq p z ns ms (by simpa using h)
    rw [List.length_cons, Ob.lexAt_succ, lexAt_shift]
    show (if decide (n = m) = true then _ else p n m) = if n = m then _ else _
    by_cases e : n = m
    · rw [if_pos (decide_eq_true e), if_pos e]
      exact ih
    · rw [if_neg (by rw [decide_eq_false e]; exact Bool.false_ne_true), if_neg e]
/-- how the library compares two tuples -/
def TupRule (op : CmpOp) (zz : Nat → Nat → Bool) : Prop := ∀ (A : Around) (s : Shared) (l b : Addr) (items items2 : Array Value) (e r : Nat → Bool), s.heap.IsTuple l items → s.heap.IsTuple b items2 → A.units < cLine →
  (∀ j (h1 : j < items.size) (h2 : j < items2.size), SeqAt.EqAt A.in1 s items[j] items2[j] (e j)) → (∀ j (h1 : j < items.size) (h2 : j < items2.size), e j = false → Ob.RcOp op A.in1 s items[j] items2[j] (r j)) →
  Ob.RcOp op A s (.ref l) (.ref b) (Ob.lexAt e r (zz items.size items2.size) 0 (min items.size items2.size))
section
variable {X : Cx} {pins : List (Addr × Obj)} {σ : L2.St} {H : Hp} {s : Shared} {op : CmpOp} {zz : Nat → Nat → Bool} {p : Int → Int → Bool} {A : Around} {t r : Addr} {ns ms : List Int}
theorem rc_ints (T : TupRule op zz) (N : ∀ (A : Around) (s : Shared) (i j : Int) (t u : Tok), Ob.RcOp op A s (.int i t) (.int j u) (p i j)) (I : Inv X pins σ H s) (ht : H t = some (.tup (ns.map V.int))) (hr : H r = some (.tup (ms.map V.int))) (hu : A.units < cLine) :
    Ob.RcOp op A s (.ref t) (.ref r) (Ob.lexAt (fun j => decide (ns.getD j 0 = ms.getD j 0)) (fun j => p (ns.getD j 0) (ms.getD j 0)) (zz ns.length ms.length) 0 (min ns.length ms.length)) := by
  obtain ⟨its, r1, p1, _⟩ := I.tuple (SqT.of (K := X.K) ht)
  obtain ⟨its2, r2, p2, _⟩ := I.tuple (SqT.of (K := X.K) hr)
  have i1 : IntsAre its ns := Vals.ints r1
  have i2 : IntsAre its2 ms := Vals.ints r2
  have z1 : its.toArray.size = ns.length := by rw [List.size_toArray]; exact i1.length
  have z2 : its2.toArray.size = ms.length := by rw [List.size_toArray]; exact i2.length
  have at1 : ∀ j (h1 : j < its.toArray.size), ∃ t, its.toArray[j] = .int (ns.getD j 0) t := fun j h1 => PyProof.Rows.IntsAre.int_at i1 _ _ (by simp at h1; simp [h1])
  have at2 : ∀ j (h1 : j < its2.toArray.size), ∃ t, its2.toArray[j] = .int (ms.getD j 0) t := fun j h1 => PyProof.Rows.IntsAre.int_at i2 _ _ (by simp at h1; simp [h1])
  have R := T A s t r its.toArray its2.toArray (fun j => decide (ns.getD j 0 = ms.getD j 0)) (fun j => p (ns.getD j 0) (ms.getD j 0)) p1 p2 hu (fun j h1 h2 => by
    obtain ⟨t1, g1⟩ := at1 j h1
    obtain ⟨t2, g2⟩ := at2 j h2
    rw [g1, g2]
    have z : (ns.getD j 0 == ms.getD j 0) = decide (ns.getD j 0 = ms.getD j 0) := by
      by_cases q : ns.getD j 0 = ms.getD j 0
      · rw [decide_eq_true q]; exact beq_iff_eq.mpr q
      · rw [decide_eq_false q]; exact beq_eq_false_iff_ne.mpr q
    rw [← z]
    exact SeqAt.EqAt.int_int _ _ _ _) (fun j h1 h2 _ => by
    obtain ⟨t1, g1⟩ := at1 j h1
    obtain ⟨t2, g2⟩ := at2 j h2
    rw [g1, g2]
    exact N _ _ _ _ _ _)
  rw [z1, z2] at R
  exact R
theorem eq_ints (I : Inv X pins σ H s) (ht : H t = some (.tup (ns.map V.int))) (hr : H r = some (.tup (ms.map V.int))) (hu : A.units + 64 < cLine) : SeqAt.EqAt A s (.ref t) (.ref r) (decide (ns = ms)) := by
  by_cases e : t = r
  · subst e
    rw [ht] at hr
    have e2 : ns.map V.int = ms.map V.int := by
      injection Option.some.inj hr
    have inj : ∀ a b : List Int, a.map V.int = b.map V.int → a = b := fun a => by
      induction a with
      | nil => intro b h; cases b with | nil => rfl | cons _ _ => cases h
      | cons x xs ih =>
        intro b h
        cases b with
        | nil => cases h
        | cons y ys =>
          rw [List.map_cons, List.map_cons] at h
          injection h with h1 h2
          injection h1 with h3
          rw [h3, ih ys h2]
    rw [decide_eq_true (inj ns ms e2)]
    exact SeqAt.EqAt.same _
  · refine SeqAt.EqAt.of_refs e fun prog w E Q q => ?_
    have D1 : Dp X.K H (.ref t) (.tuple (ns.map PyData.int)) := .tup (SqT.of ht) (dpK ns)
    have D2 : Dp X.K H (.ref r) (.tuple (ms.map PyData.int)) := .tup (SqT.of hr) (dpK ms)
    obtain ⟨as, g1⟩ := Dp.reads I _ _ (.ref t) D1 rfl
    obtain ⟨bs, g2⟩ := Dp.reads I _ _ (.ref r) D2 rfl
    have z := SeqAt.compareEq_shaped (prog := prog) (w := w) (A := A) (E := E) (Q := Q) g1 g2 (shapedT ns) (shapedT ms) hu (by rw [eqvK]; exact q)
    exact z
theorem rc_key {a b : Addr} {z : Bool} (T : TupRule op zz) (N : ∀ (A : Around) (s : Shared) (i j : Int) (t u : Tok), Ob.RcOp op A s (.int i t) (.int j u) (p i j)) (hz : ∀ n, zz n n = z) (I : Inv X pins σ H s) (ha : H a = some (.tup [.int (ns.length : Nat), .ref t])) (hb : H b = some (.tup [.int (ms.length : Nat), .ref r]))
    (ht : H t = some (.tup (ns.map V.int))) (hr : H r = some (.tup (ms.map V.int))) (hu : A.units + 65 < cLine) : Ob.RcOp op A s (.ref a) (.ref b) (kcmp p z ns ms) := by
  obtain ⟨its, r1, p1, _⟩ := I.tuple (SqT.of (K := X.K) ha)
  obtain ⟨its2, r2, p2, _⟩ := I.tuple (SqT.of (K := X.K) hb)
  obtain ⟨u1, u2, rfl, ⟨t1, rfl⟩, q2⟩ := vals2 r1
  obtain ⟨v1, v2, rfl, ⟨t2, rfl⟩, q4⟩ := vals2 r2
  obtain rfl : u2 = Value.ref t := q2
  obtain rfl : v2 = Value.ref r := q4
  have R := T A s a b _ _ (fun j => if j = 0 then decide ((ns.length : Int) = ms.length) else decide (ns = ms))
    (fun j => if j = 0 then p ns.length ms.length else Ob.lexAt (fun j => decide (ns.getD j 0 = ms.getD j 0)) (fun j => p (ns.getD j 0) (ms.getD j 0)) (zz ns.length ms.length) 0 (min ns.length ms.length)) p1 p2 (by omega) (fun j h1 h2 => ?_) (fun j h1 h2 _ => ?_)
  · have e : kcmp p z ns ms = Ob.lexAt (fun j => if j = 0 then decide ((ns.length : Int) = ms.length) else decide (ns = ms))
        (fun j => if j = 0 then p ns.length ms.length else Ob.lexAt (fun j => decide (ns.getD j 0 = ms.getD j 0)) (fun j => p (ns.getD j 0) (ms.getD j 0)) (zz ns.length ms.length) 0 (min ns.length ms.length)) (zz 2 2) 0 2 := by
      rw [Ob.lexAt_succ, Ob.lexAt_succ, Ob.lexAt_zero, hz]
      simp only [if_true, Nat.zero_add, Nat.one_ne_zero, if_false]
      unfold kcmp
      by_cases hl : ns.length = ms.length
      · rw [if_pos hl, if_pos (decide_eq_true (by omega)), ← hl, Nat.min_self, hz]
        by_cases hn : ns = ms
        · rw [if_pos (decide_eq_true hn), hn]
          have self : ∀ l : List Int, lexp p z l l = z := fun l => by
            induction l with
            | nil => rfl
            | cons x xs ih =>
              show (if x = x then lexp p z xs xs else p x x) = z
              rw [if_pos rfl, ih]
          exact self ms
        · rw [if_neg (by rw [decide_eq_false hn]; exact Bool.false_ne_true), lexAt_eq p z ns ms hl]
      · rw [if_neg hl, if_neg (by rw [decide_eq_false (fun e => hl (by omega))]; exact Bool.false_ne_true)]
    rw [e]
    exact R
  · match j, h1 with
    | 0, _ =>
      show SeqAt.EqAt A.in1 s (.int ns.length t1) (.int ms.length t2) (decide ((ns.length : Int) = ms.length))
      have q : (((ns.length : Nat) : Int) == ((ms.length : Nat) : Int)) = decide ((ns.length : Int) = ms.length) := by
        by_cases q : (ns.length : Int) = ms.length
        · rw [decide_eq_true q]; exact beq_iff_eq.mpr q
        · rw [decide_eq_false q]; exact beq_eq_false_iff_ne.mpr q
      rw [← q]
      exact SeqAt.EqAt.int_int _ _ _ _
    | 1, _ => exact eq_ints (A := A.in1) I ht hr (by show A.units + 1 + 64 < cLine; omega)
    | j + 2, h1 => exact absurd h1 (by simp)
  · match j, h1 with
    | 0, _ => exact N _ _ _ _ _ _
    | 1, _ => exact rc_ints (A := A.in1) T N I ht hr (by show A.units + 1 < cLine; omega)
    | j + 2, h1 => exact absurd h1 (by simp)
/-- an order of two such keys -/
def rKey (p : Int → Int → Bool) (z : Bool) : R2 := fun x y H Q => ∃ (a b t r : Addr) (ns ms : List Int), x = .ref a ∧ y = .ref b ∧ H a = some (.tup [.int (ns.length : Nat), .ref t]) ∧ H b = some (.tup [.int (ms.length : Nat), .ref r]) ∧ H t = some (.tup (ns.map V.int)) ∧ H r = some (.tup (ms.map V.int)) ∧ Q (.bl (kcmp p z ns ms)) H
theorem op_key {z : Bool} (T : TupRule op zz) (N : ∀ (A : Around) (s : Shared) (i j : Int) (t u : Tok), Ob.RcOp op A s (.int i t) (.int j u) (p i j)) (hz : ∀ n, zz n n = z) (hu : X.A.units + 65 < cLine) : OpR X (richCompare op) (rKey p z) := by
  intro pins s σ H x y v u Q I rx ry h
  obtain ⟨a, b, t, r, ns, ms, rfl, rfl, ha, hb, ht, hr, q⟩ := h
  obtain rfl : v = Value.ref a := rx
  obtain rfl : u = Value.ref b := ry
  exact rc_key T N hz I ha hb ht hr hu X.prog X.w X.xe _ ⟨.bl _, H, I, rfl, q⟩
end
def oLtK : R2 := fun x y H Q => oLt x y H Q ∨ rKey (fun i j => decide (i < j)) false x y H Q
def oGtK : R2 := fun x y H Q => oGt x y H Q ∨ rKey (fun i j => decide (j < i)) false x y H Q
def oLeK : R2 := fun x y H Q => oLe x y H Q ∨ rKey (fun i j => decide (i ≤ j)) true x y H Q
def oGeK : R2 := fun x y H Q => oGe x y H Q ∨ rKey (fun i j => decide (j ≤ i)) true x y H Q
theorem op_oLtK {X : Cx} (hu : X.A.units + 65 < cLine) : OpR X (compareOp .Lt) oLtK := OpR.or op_oLt (op_key (op := .Lt) (zz := fun m n => decide (m < n)) (fun A s l b i1 i2 e r h1 h2 h3 h4 h5 => Ob.RcOp.tuples_lt h1 h2 h3 h4 h5) (fun _ _ i j t u => Ob.RcOp.lt_int i j t u) (fun n => decide_eq_false (Nat.lt_irrefl n)) hu)
theorem op_oGtK {X : Cx} (hu : X.A.units + 65 < cLine) : OpR X (compareOp .Gt) oGtK := OpR.or op_oGt (op_key (op := .Gt) (zz := fun m n => decide (m > n)) (fun A s l b i1 i2 e r h1 h2 h3 h4 h5 => Ob.RcOp.tuples_gt h1 h2 h3 h4 h5) (fun _ _ i j t u => Ob.RcOp.gt_int i j t u) (fun n => decide_eq_false (Nat.lt_irrefl n)) hu)
theorem op_oLeK {X : Cx} (hu : X.A.units + 65 < cLine) : OpR X (compareOp .LtE) oLeK := OpR.or op_oLe (op_key (op := .LtE) (zz := fun m n => decide (m ≤ n)) (fun A s l b i1 i2 e r h1 h2 h3 h4 h5 => Ob.RcOp.tuples_le h1 h2 h3 h4 h5) (fun _ _ i j t u => Ob.RcOp.le_int i j t u) (fun n => decide_eq_true (Nat.le_refl n)) hu)
theorem op_oGeK {X : Cx} (hu : X.A.units + 65 < cLine) : OpR X (compareOp .GtE) oGeK := OpR.or op_oGe (op_key (op := .GtE) (zz := fun m n => decide (m ≥ n)) (fun A s l b i1 i2 e r h1 h2 h3 h4 h5 => Ob.RcOp.tuples_ge h1 h2 h3 h4 h5) (fun _ _ i j t u => Ob.RcOp.ge_int i j t u) (fun n => decide_eq_true (Nat.le_refl n)) hu)
end Ov

set_option Elab.async false
set_option linter.all false
set_option maxRecDepth 100000
set_option maxHeartbeats 2000000
namespace Ov
open PySem PySem.Spec PyProof.Rows L2
section
variable {X : Cx}
/-! ### sorted(d, key=str) -/
theorem str_key (prog : Program) (w : World) (A : Around) (s : Shared) (x : Str) (t : Tok) : wpAny (model prog w) A (call (.type "str") [.str x t]) (PySem.W.KeyPure (.str x) s) (fun _ _ => False) s :=
  PySem.P.str_of_str ⟨s.heap, s.toks, rfl, fun _ _ e => e, .str x t⟩
theorem strs_each : ∀ {vs : List Value} {ks : List Str}, StrsAre vs ks → PySem.W.EachIs (fun v (x : Str) => ∃ t, v = Value.str x t) vs ks
  | [], [], _ => .nil
  | [], _ :: _, h => by cases h.length
  | _ :: _, [], h => by cases h.length
  | v :: vs, k :: ks, h => by
    obtain ⟨t, vs', e, h'⟩ := h.cons_inv
    cases e
    exact .cons ⟨t, rfl⟩ (strs_each h')
theorem each_vals : ∀ {vs : List Value} {ks : List Str}, PySem.W.EachIs (fun v (x : Str) => ∃ t, v = Value.str x t) vs ks → Vals (ks.map V.str) vs
  | [], [], _ => .nil
  | v :: vs, k :: ks, h => by
    cases h with
    | cons h1 h2 => exact .cons h1 (each_vals h2)
def rSortDK : List V → List V → Hp → VK → Prop := fun vs zs H Q => ∃ (a : Addr) (kvs : List (Key × V)) (ks : List Str), vs = [.ref a] ∧ zs = [.ty "str"] ∧ Rd H a (.dK kvs) ∧ kvs.map (·.1) = ks.map Sum.inr ∧ ks.length < 64 ∧
  ∀ ys p, ys.Perm ks → sortedS ys = true → H p = none → Q (.ref p) (upd H p (.lst (ys.map V.str)))
theorem cr_sortDK (hcalm : X.calm = true) (hu : X.A.units + 2 < cLine) : CallRK X (.builtin "sorted") [Str.ofString "key"] rSortDK := by
  intro pins s σ H vs zs us ws Q I r rz q
  obtain ⟨a, kvs, ks, rfl, rfl, hd, hks, h64, q⟩ := q
  obtain rfl := Vals.ref1 r
  obtain ⟨w1, rfl, e1⟩ := vals1 rz
  obtain rfl : w1 = Value.type "str" := e1
  obtain ⟨z, lo, vs, rel, dd⟩ := dk_rd I.hok hd
  obtain ⟨ep, hat⟩ := dd.dictAt
  have hkeys : vs.map (·.1) = ks.map Sum.inr := rel.keys.symm.trans hks
  have hl : vs.length = ks.length := by
    have e := congrArg List.length hkeys
    rw [List.length_map, List.length_map] at e
    exact e
  have h16 : vs.length ≤ sizeLine := by rw [hl, sizeLine_eq]; omega
  refine call_function_entry_kw PyProof.Rows.kind_sorted PyProof.Rows.plain_sorted PyProof.Rows.entry_sorted (ksk_s1 _ _) ?_
  unfold Builtin.«sorted»
  refine wpAny_bind (m := checkCount "sorted" 1 1 _) (wpAny_pure ?_)
  refine wpAny_bind (PySem.W.kdu_collect (A := X.A.in1) (PySem.W.kdl_dict (knd := mixKind X.prog X.w) (kvs := vs) (ep := ep) lo) (I.ok.hd hcalm) hat h16 fun h' tk acc hk hacc => ?_)
  have hal : acc.toList.length = ks.length := by rw [Array.length_toList, hacc.1, hl]
  have hS : StrsAre acc.toList ks := strs_at hal fun j v e => by
    obtain ⟨k, x, e1, e2⟩ := hacc.2 j v (by rw [← Array.getElem?_toList]; exact e)
    have e3 : (vs.map (·.1))[j]? = some k := by rw [List.getElem?_map, e1]; all_goals rfl
    rw [hkeys, List.getElem?_map] at e3
    cases e4 : ks[j]? with
    | none => rw [e4] at e3; cases e3
    | some y =>
      rw [e4] at e3
      have e5 : Sum.inr y = k := Option.some.inj e3
      subst e5
      obtain ⟨t, ev⟩ := Value.isStrOf_shape (x := y) (v := v) e2
      exact ⟨y, t, rfl, ev⟩
  have I1 : Inv X pins σ H { s with heap := h', toks := tk } := I.kept hk
  refine wpAny_bind (wpAny_newList ?_ (by rw [hal, sizeLine_eq]; omega))
  have hoL : (h'.push (seqObj "list" acc.toList.toArray 0)).get? h'.objs.size = some (seqObj "list" acc.toList.toArray 0) := Heap.get?_push_size _ rfl
  show wpAny _ _ _ _ _ { s with heap := h'.push (seqObj "list" acc.toList.toArray 0), toks := tk }
  have hE := strs_each hS
  refine wpAny_bind (wpAny_holding (wpAny_call_entry_kw PyProof.Rows.slot_list_sort ⟨_, hoL, rfl⟩ PyProof.Rows.entry_list_sort ?_ (ksk_l1 _ _)))
  show wpAny _ _ (ksk_tree h'.objs.size (.type "str") false) _ _ _
  refine PySem.W.keyH_tree (kz := ks.map PyData.str) (s := { s with heap := h'.push (seqObj "list" acc.toList.toArray 0), toks := tk }) hoL (by rw [List.length_map, hal]) (by rw [hal, sizeLine_eq]; omega)
    (PySem.W.AllAlike.of fun _ _ => by simp [PySem.W.alike]) (PySem.W.Sortable.others fun _ => ⟨by simp, by simp⟩) (fun d hd => ?_)
    (PySem.W.keyH_turns (k := PyData.str) (s := { s with heap := h'.push (seqObj "list" acc.toList.toArray 0), toks := tk }) hE fun v x hR hx h tk kp => ?_) fun h3 tk3 out c kp hD ko => ⟨_, rfl, ?_⟩
  · obtain ⟨x, _, rfl⟩ := List.mem_map.mp hd
    show X.A.units + 1 + 1 + 0 < cLine
    omega
  · obtain ⟨t, rfl⟩ := hR
    exact str_key _ _ _ _ _ _
  · have eo := PySem.W.keyedOut_each PyData.str ko hE
    have el : PySem.W.dataLe false PyData.str = fun a b : Str => decide (a.cps.toList ≤ b.cps.toList) := PySem.W.dataLe_str (β := Str) fun x => x
    rw [el] at eo
    have hp := List.mergeSort_perm ks fun a b : Str => decide (a.cps.toList ≤ b.cps.toList)
    have hs : sortedS (ks.mergeSort fun a b : Str => decide (a.cps.toList ≤ b.cps.toList)) = true := by
      refine sortedS_of_pairwise _ ((List.pairwise_mergeSort (le := fun a b : Str => decide (a.cps.toList ≤ b.cps.toList)) ?_ ?_ ks).imp fun {a b} h => ?_)
      · intro a b c h1 h2
        exact decide_eq_true (List.le_trans (of_decide_eq_true h1) (of_decide_eq_true h2))
      · intro a b
        rw [Bool.or_eq_true]
        rcases List.le_total a.cps.toList b.cps.toList with h | h
        · exact .inl (decide_eq_true h)
        · exact .inr (decide_eq_true h)
      · rw [ltCps_eq]
        exact decide_eq_false (of_decide_eq_true h)
    have hv := each_vals eo
    have hlen : ((ks.mergeSort fun a b : Str => decide (a.cps.toList ≤ b.cps.toList)).map V.str).length ≤ sizeLine := by
      rw [List.length_map, hp.length_eq, sizeLine_eq]
      omega
    refine wpAny_pure ⟨_, rfl, .ref h'.objs.size, upd H h'.objs.size (.lst ((ks.mergeSort fun a b : Str => decide (a.cps.toList ≤ b.cps.toList)).map V.str)), I1.laid (t' := tk3) (fun b u e => ?_) (Nat.le_refl _)
      (show ObjOk X.prog X.w _ _ _ (.lst _) from ⟨hlen, out, c, hv, hD⟩), rfl, q _ _ hp hs (I1.hok.fresh (Nat.le_refl _))⟩
    have hb : b < h'.objs.size := Heap.lt_size e
    exact kp b u (Nat.ne_of_lt hb) (Heap.get?_push_of_some _ e)
/-! ### a tuple whose object is known -/
def PlainT (o : Obj) : Prop := o.cls = .type "tuple" ∧ o.dict = none
def cTupF (K : PySem.W.Frag) : List V → Hp → VK → Prop := fun xs H Q => ∃ p ys, xs = [.ref p] ∧ SqL K H p ys ∧ ∀ l o, H l = none → PlainT o → Q (.ref l) (upd H l (.frz o (.tup ys)))
theorem call_cTupF : CallR X (.type "tuple") (cTupF X.K) := by
  intro pins s σ H xs us Q I r h
  obtain ⟨p, ys, rfl, hq, q⟩ := h
  obtain ⟨u, rfl, rx⟩ := vals1 r
  cases rx
  obtain ⟨its, r', pl, hz⟩ := I.list hq
  have hlen := r'.length
  refine call_tuple_list pl.isList (fun h' kp => ?_) (by simp only [List.size_toArray] <;> omega)
  have I1 : Inv X pins σ H { s with heap := h' } := I.kept (t' := s.toks) kp
  have I2 : Inv X pins σ (upd H h'.objs.size (.frz { cls := .type "tuple", data := .seq its.toArray } (.tup ys))) { s with heap := h'.push { cls := .type "tuple", data := .seq its.toArray } } :=
    I1.laid (t' := s.toks) (fun b o e => Heap.get?_push_of_some _ e) (Nat.le_refl _) (show ObjOk X.prog X.w _ _ _ (.frz _ (.tup ys)) from ⟨Heap.get?_push_size _ rfl, hz, its, r', IsTup.new _ _⟩)
  exact ⟨.ref h'.objs.size, _, I2, rfl, q _ _ (I1.hok.fresh (Nat.le_refl _)) ⟨rfl, rfl⟩⟩
/-! ### dict of a tuple of pairs -/
theorem pairs_of2 {pins : List (Addr × Obj)} {σ : L2.St} {H : Hp} {s : Shared} (I : Inv X pins σ H s) : ∀ {ps : List Addr} {kvs : List (Key × V)}, Paired (fun p kv => SqT X.K H p [kV kv.1, kv.2]) ps kvs →
    ∃ (prs : List (Key × Value)) (ws : List (Value × Value)), KV kvs prs ∧ prs.length = ps.length ∧ ws.length = ps.length ∧ ∀ (j : Nat) (k v : Value), ws[j]? = some (k, v) → ∃ (b : Addr) (key : Key), ps[j]? = some b ∧ prs[j]? = some (key, v) ∧ IsTup s.heap b #[k, v] ∧ keyIs key k = true
  | _, _, .nil => ⟨[], [], .nil, rfl, rfl, fun j k v e => by simp at e⟩
  | _, _, .cons (a := p) (b := kv) h t => by
    obtain ⟨prs, ws, r, hl, hl2, hp⟩ := pairs_of2 I t
    obtain ⟨its, rv, ht, _⟩ := I.tuple h
    obtain ⟨u, y, ei, ru, ry⟩ := vals2 rv
    subst ei
    refine ⟨(kv.1, y) :: prs, (u, y) :: ws, .cons ⟨rfl, ry⟩ r, by rw [List.length_cons, List.length_cons, hl], by rw [List.length_cons, List.length_cons, hl2], fun j k v e => ?_⟩
    cases j with
    | zero =>
      have e' : (u, y) = (k, v) := Option.some.inj e
      injection e' with e1 e2
      subst e1 e2
      exact ⟨p, kv.1, rfl, rfl, ht, kV_is (P := X.prog) (w := X.w) ru⟩
    | succ j =>
      obtain ⟨b, key, e1, e2, e3⟩ := hp j k v (by simpa using e)
      exact ⟨b, key, by simpa using e1, by simpa using e2, e3⟩
def rDictT (K : PySem.W.Frag) : List V → Hp → VK → Prop := fun xs H Q => ∃ (a : Addr) (o : Obj) (ps : List Addr) (kvs : List (Key × V)), xs = [.ref a] ∧ H a = some (.frz o (.tup (ps.map V.ref))) ∧ PlainT o ∧ Paired (fun p kv => SqT K H p [kV kv.1, kv.2]) ps kvs ∧
  ∀ p, H p = none → Q (.ref p) (upd H p (.dK (mergeK [] kvs)))
theorem call_dictT (hcalm : X.calm = true) : CallR X (.type "dict") (rDictT X.K) := by
  intro pins s σ H xs us Q I r h
  obtain ⟨a, o, ps, kvs, rfl, ha, ⟨pc, pd⟩, hp, q⟩ := h
  obtain ⟨u, rfl, rx⟩ := vals1 r
  cases rx
  obtain ⟨ho, hz, its, rv, ht⟩ : s.heap.get? a = some o ∧ ObjOk X.prog X.w H s.heap a (.tup (ps.map V.ref)) := I.hok a _ ha
  have ei := refs_at rv
  subst ei
  rw [List.length_map] at hz
  obtain ⟨prs, ws, rel, hl, hl2, hpr⟩ := pairs_of2 I hp
  obtain ⟨o', ho', hc, n, hdat⟩ := ht
  rw [ho] at ho'
  obtain rfl := Option.some.inj ho'
  have P := PairArg.tuple (prog := X.prog) (w := X.w) a (ps.map Value.ref).toArray (fun j => ps.getD j 0) ws
  refine PySem.call_dict_pairs (knd := mixKind X.prog X.w) (kvs := prs) P (I.ok.hd hcalm) ⟨⟨o, n, ho, hc, pd, hdat⟩, by simp [hl2], fun j k v e => ?_⟩ ⟨by rw [hl, hl2], fun i key v e => ?_⟩ (by rw [hl2]; exact hz) fun h' tk hd' k => ?_
  · obtain ⟨b, key, e1, e2, e3, e4⟩ := hpr j k v e
    have eb : ps.getD j 0 = b := by rw [List.getD_eq_getElem?_getD, e1]; rfl
    refine ⟨by simp [e1], ?_⟩
    show PairAt s.heap (ps.getD j 0) k v
    rw [eb]
    exact .inl e3
  · obtain ⟨b, k, e1, e2, e3, e4⟩ := hpr i key v e
    exact ⟨k, e2, e4⟩
  · have hm : (s.heap.objs.size == sysModules) = false := beq_eq_false_iff_ne.mpr (Nat.ne_of_gt I.big)
    have hlen : (mergeK [] kvs).length ≤ sizeLine := by
      refine Nat.le_trans (length_mergeK kvs []) ?_
      rw [List.length_nil, Nat.zero_add, rel.length, hl]
      exact hz
    exact ⟨.ref s.heap.objs.size, upd H s.heap.objs.size (.dK (mergeK [] kvs)), I.laid (t' := tk) (fun b u e => k b u (fun z => nomatch z) e) (Nat.le_refl _) (show ObjOk X.prog X.w _ _ _ (.dK (mergeK [] kvs)) from ⟨hlen, hm, merged [] prs, KV.merge rel .nil, hd'⟩), rfl, q _ (I.hok.fresh (Nat.le_refl _))⟩
/-- list(d): its keys -/
def cListD : List V → Hp → VK → Prop := fun xs H Q => ∃ (a : Addr) (kvs : List (Key × V)), xs = [.ref a] ∧ Rd H a (.dK kvs) ∧ ∀ p, H p = none → Q (.ref p) (upd H p (.lst (kvs.map fun kv => kV kv.1)))
theorem call_cListD (hcalm : X.calm = true) : CallR X (.type "list") cListD := call_listD hcalm
theorem hu2 {A : Around} (h : A.units + 65 < cLine) : A.units + 2 < cLine := by omega
end
end Ov

set_option Elab.async false
set_option linter.all false
set_option maxRecDepth 100000
set_option maxHeartbeats 2000000
namespace Ov
open PySem PySem.Spec PyProof.Rows L2
/-! ### defs that take a caught error: its fields, and calls of other such defs -/
theorem pe_xfP {X : Cx} {a C : Addr} {oe : Obj} {cls : Value} {d : Option Addr} {e : Expr} {te : TE} {pos : Pos} {n : Str} (hp : (a, oe) ∈ X.pn) (T : XfC X.K C) (hno : PySem.W.findIn X.K (.ref C) n = some none)
    (hz : Zc cls d oe) (hf : ∃ vs, oe.data = .fields vs) (he : PE X e te) (hb : attributeBase e n X.env (eval e X.env) = eval e X.env := by rfl) : PE X (.Attribute e n pos) (tXf a cls d C n te) := by
  refine ⟨fun pins s σ H Q I h => ?_⟩
  refine attr_of hb (thn (he.run pins s σ H _ I h) fun u s1 hh => ?_)
  obtain ⟨x, H1, I1, rx, ex, ec, dd, fs, v, ed, ea, l, q⟩ := hh
  subst ex
  obtain rfl : u = Value.ref a := rx
  subst ec
  subst ed
  obtain ⟨ha, _⟩ := I1.pin (a, oe) (List.mem_append_left _ hp)
  obtain ⟨vs, hd⟩ := hf
  have hx : ObjOk X.prog X.w H1 s1.heap dd (.xd fs) := I1.hok dd _ ea
  obtain ⟨mA, hns, hr⟩ := hx
  obtain ⟨od, ho, hl⟩ := lookIn_ns hns
  obtain ⟨u, hu, ru⟩ := RelO.some_of (v := v) (o := mA n) (by rw [← l]; exact hr n)
  have J : PySem.W.InstAt s1.heap a oe C (some od) := ⟨ha, hz.1, by unfold PySem.W.notCls; rw [hd] <;> rfl, by rw [hz.2]; exact ho⟩
  exact HandSPX.exc_get I1.kIn J T.ga T.gg T.exC (PySem.W.findObj_own T.hdC hno rfl (by rw [hl, hu])) (handed_of ru) ⟨v, H1, I1.tok _, ru, q⟩
theorem pe_callXP {X : Cx} {k : Nat} {x : Str} {ps : List Str} {sp : SpX} {a : Addr} {oe : Obj} {cls : Value} {d : Option Addr} {q pos : Pos} {e : Expr} {es : List Expr} {t : TA} (hp : (a, oe) ∈ X.pn) (c : CalX X.prog X.w X.K X.mg X.base k x ps sp) (hr : L2H.RoomH k X.A)
    (hz : Zc cls d oe) (hf : ∃ ws, oe.data = .fields ws) (hg : Gl X x) (ha : PA X (e :: es) t) (hdb : (x == ("__debug__" : Str)) = false := by decide)
    (he : starEach (e :: es) X.env = (false, eval e X.env) :: starEach es X.env := by rfl) (hpl : (backTo pos (starEach es X.env)).any (·.1) = false := by rfl) : PE X (.Call (.Name x q) (e :: es) [] pos) (tCallX sp a cls d t) := by
  obtain ⟨f, fd, F, m, kp, b⟩ := c
  refine ⟨fun pins s σ H Q I h => wpAny_Call_Name_kw (ld_glob I hg m ?_ hdb)⟩
  refine PySem.W.callWith_K (h₀ := X.base) I.ok.mod.kin kp (thn (ha.run pos pins s σ H _ I h) fun us s1 ⟨vs, H1, I1, r, z⟩ => ⟨I1.kIn, ?_⟩) he hpl
  have hl : us.length = ps.length := by rw [← r.length]; exact F.len _ _ _ _ _ _ _ z
  have bd := b s1 us I1.kIn (by simpa using hl)
  have P1 := I1.pin (a, oe) (List.mem_append_left _ hp)
  have hpin : L2H.PinOk X.stack H1 s1 (a, oe) := ⟨P1.1, P1.2.1, fun hm => (List.mem_cons.mp (I1.stkSub a hm)).elim P1.2.2.1 P1.2.2.2.1, P1.2.2.2.2⟩
  refine wpAny_call (codeAny_mono (F.run X.A _ s1 H1 ⟨us, []⟩ us vs Q E0 a oe cls d hr hpin hz hf I1.env0 (by simpa using bd) r z) fun r s' y => ?_)
  cases r with
  | error e => exact y.elim
  | ok fl =>
    cases fl with
    | ret u => exact I1.after y
    | next => exact y.elim
    | brk => exact y.elim
    | cont => exact y.elim
/-! ### the truth of a tuple -/
def tTruth (K : PySem.W.Frag) (ta : TE) : TT := fun σ H Q => ta σ H fun x H' => ∃ k, TruV K x H' k ∧ Q k H'
theorem pt_tru {X : Cx} {a : Expr} {ta : TE} (ha : PE X a ta) (he : ∀ whole, isTrue a X.env whole = (do let v ← whole; standAt a.pos; holding [v] (truthy v))) : PT X a (tTruth X.K ta) := pt_truth ha he
theorem an_truT {K : PySem.W.Frag} {σ : L2.St} {H : Hp} {te : TE} {p : Addr} {xs : List V} (h : Val te σ H (.ref p)) (hp : H p = some (.tup xs)) : Ans (tTruth K te) σ H (!xs.isEmpty) := fun Q q => h _ ⟨_, (show (∃ xs, SqL K H p xs ∧ _) ∨ (∃ xs, SqT K H p xs ∧ _) ∨ _ from .inr (.inl ⟨xs, SqT.of hp, rfl⟩)), q⟩
theorem q_notInK {K : PySem.W.Frag} {H : Hp} {Q : VK} {p : Addr} {k : Key} {kvs : List (Key × V)} (hp : H p = some (.dK kvs)) (h : Q (.bl (!(valV kvs k).isSome)) H) : oNotInX K (kV k) (.ref p) H Q := .inr ⟨p, _, rfl, DGet.k hp, h⟩
end Ov

set_option Elab.async false
set_option linter.all false
set_option maxRecDepth 100000
set_option maxHeartbeats 2000000
namespace Ov
open PySem PySem.Spec PyProof.Rows L2
/-! ### several clauses, each with the same name for what it takes -/
abbrev TX3 := Addr → Value → Option Addr → TS
/-- the ends behind a suite: the name is gone -/
def Ends.gone (D : Ends) (i : Nat) : Ends := { nx := fun σ' H' => D.nx (σ'.set i none) H', rt := D.rt, bk := fun σ' H' => D.bk (σ'.set i none) H', ct := fun σ' H' => D.ct (σ'.set i none) H' }
def wManyAs (K : PySem.W.Frag) (i : Nat) (Wo : WX) (D : Ends) (l : List (Value × TX3)) : WX := l.foldr (fun q r cls d σ H => ∃ b, PySem.W.exmOne K cls q.1 = some b ∧ (b = true → ∀ a, H a = none → q.2 a cls d (Ends.gone D i) (σ.set i (some (.ref a))) H) ∧ (b = false → r cls d σ H)) Wo
inductive HdsAs (X : Cx) (n : Str) : List ExceptHandler → List (Value × TX3) → Prop
  | nil : HdsAs X n [] []
  | cons {x : Str} {c : Value} {ts : TX3} {b₀ : Stmt} {suite : List Stmt} {np p1 : Pos} {hds : List ExceptHandler} {l : List (Value × TX3)} (hc : Names X x c)
      (su : ∀ (a : Addr) (oe : Obj) (cls : Value) (d : Option Addr) (pn : List (Addr × Obj)), Zc cls d oe → (∃ vs, oe.data = .fields vs) → PSs (X.suite a ((a, oe) :: pn)) (b₀ :: suite) (ts a cls d)) (r : HdsAs X n hds l) :
      HdsAs X n (.ExceptHandler (some (.Name x np)) (some n) (b₀ :: suite) p1 :: hds) ((c, ts) :: l)
section
variable {X : Cx} {n : Str} {i : Nat} {body : List Stmt} {h₀ : ExceptHandler} {hds : List ExceptHandler} {l : List (Value × TX3)} {pos : Pos} {tb : WX → TS} {Wo : WX}
theorem ps_try_manyAs (hs : X.stack = X.env :: X.outer) (hf : X.env.frame = some X.env.locals) (hN : X.N.Nodup) (hi : X.N[i]? = some n) (hln : X.env.kindOf n = some .local) (tk : Takes X Wo)
    (hb : ∀ (W : WX) (pn : List (Addr × Obj)) (xe : Value → Shared → Prop), Takes (X.tr pn xe) W → PassesOwn (model X.prog X.w) X.A X.env xe → PSs (X.tr pn xe) body (tb W))
    (hh : HdsAs X n (h₀ :: hds) l) : PS X (.Try body (h₀ :: hds) [] [] pos) (fun D σ H => tb (wManyAs X.K i Wo D l) D σ H) := by
  refine ⟨fun pins s σ H D I h => ?_⟩
  have ok := I.ok
  have frs_ : X.A.frames = some (X.env :: X.outer) := by rw [ok.frames, hs]
  have loc : Loc X.env.scope n := .inl hln
  refine wpAny_Try_except ?_
  refine wpAny_mono ((hb (wManyAs X.K i Wo D l) (X.pn ++ pins) (fun e t1 => wpAny (model X.prog X.w) X.A (noteFrame e X.env) (fun _ t2 => wpAny (model X.prog X.w) X.A (setFlight e none) (fun _ t3 => wpAny (model X.prog X.w) X.A (handleBy e X.env (h₀ :: hds)) (SP X pins D) X.xe t3) X.xe t2) X.xe t1) (fun u s' q => ?_) PassesOwn.looking).run [] s σ H D (I.toTry _) h) (fun f t1 q => ?_) (fun e t1 q => q)
  · obtain ⟨a, B, sI, pins', σ', H', cls, d, rfl, J', nb, up, sky, na, os, ag, w⟩ := q
    have J : Inv X pins σ' H' sI := J'.ofTry ok
    have sky2 : Sky B (X.env :: X.outer) a (Zc cls d) X.env.locals s'.heap := by rw [← hs]; exact sky
    show wpAny (model X.prog X.w) X.A (noteFrame (.ref a) X.env) _ _ _
    refine Sky.land Zc.steady frs_ hf sky2 fun g fl upg => ?_
    have Jg : Inv X pins σ' H' { s' with heap := g } := J.landed nb fl.1 (up.trans upg) os ag
    obtain ⟨oe, vs, he, hz, hd⟩ := fl.there
    have away : a ∉ frs (X.env :: X.outer) := fun hm => by
      obtain ⟨_, o2, e2, no⟩ := fl.2.2.1.mem hm
      rw [he] at e2
      cases e2
      exact no _ hd
    have nL : a ≠ X.env.locals := fun z => away (List.mem_filterMap.mpr ⟨X.env, List.mem_cons_self, by rw [hf, z]⟩)
    have nF : a ∉ X.fs := fun hm => by
      obtain ⟨e, he2, q⟩ := List.mem_filterMap.mp hm
      exact away (List.mem_filterMap.mpr ⟨e, List.mem_cons_of_mem _ he2, q⟩)
    have Sg := Jg.suite he hd na nL nF
    have LT : PySem.W.Looks (model X.prog X.w) g (typeOf (.ref a)) cls := fun A Q E s k q => wpAny_typeOf_ref (k _ _ he) (by rw [hz.1]; exact q)
    suffices go : ∀ {hds2 : List ExceptHandler} {l2 : List (Value × TX3)}, HdsAs X n hds2 l2 → wManyAs X.K i Wo D l2 cls d σ' H' → wpAny (model X.prog X.w) X.A (handleBy (.ref a) X.env hds2) (SP X pins D) X.xe { s' with heap := g } from go hh w
    intro hds2 l2 hk
    induction hk with
    | nil =>
      intro w
      refine wpAny_handleBy_nil ?_
      obtain ⟨_, _, _, oe2, vs2, T, oT, tr, he2, hz2, hd2, fld, _⟩ := id fl
      unfold PySem.passOn
      refine wpAny_bind (wpAny_field he2 hd2 fld ?_)
      rw [if_neg (show ¬ ((Value.ref T == Value.none) = true) by simp)]
      have out : wpAny (model X.prog X.w) X.A (setFlight (.ref a) X.env.frame) (fun _ t4 => wpAny (model X.prog X.w) X.A (throw (.ref a) : Sem Flow) (SP X pins D) X.xe t4) X.xe { s' with heap := g } := by
        rw [hf]
        exact HandSPX.setFlight_upZ fl fun h4 sk4 up4 => wpAny_throw (tk _ _ ⟨a, B, sI, pins, σ', H', cls, d, rfl, J, nb, (up.trans upg).trans up4, .inr (.inr (by rw [hs]; exact sk4)), na, os, ag, w⟩)
      first
        | exact wpAny_bind (wpAny_pure (wpAny_bind out))
        | exact wpAny_bind out
    | @cons x c ts b₀ suite np p1 hds3 l3 hc su r ih =>
      intro w
      obtain ⟨b, eb, yes, no⟩ := w
      refine wpAny_handleBy_cons (codeAny_handlers_test ?_) (by intro q; cases q)
      have LM := PySem.W.exm_one (M := model X.prog X.w) (Jg.kIn) LT eb
      have test : ∀ {Q : Value → Shared → Prop} {E : Value → Shared → Prop}, Q c { s' with heap := g } → wpAny (model X.prog X.w) (X.A.mark (some (.ref a))) (eval (.Name x np) X.env) Q E { s' with heap := g } := fun {Q E} q => by
        obtain ⟨gl, db, m | ⟨m, v, nn⟩⟩ := hc
        · exact ld_glob (X := X.suite a ((a, oe) :: (X.pn ++ pins))) Sg gl m q db
        · exact ld_blt (X := X.suite a ((a, oe) :: (X.pn ++ pins))) Sg gl m v q nn db
      refine test (LM.here ?_)
      cases b with
      | false =>
        show wpAny _ X.A (handleBy (.ref a) X.env hds3) _ _ _
        exact ih (no rfl)
      | true =>
        refine codeAny_handlers_suite_as ?_
        refine HandSPX.lands_againZ fl fun g4 fl4 up4 => ?_
        obtain ⟨oe4, vs4, he4, hz4, hd4⟩ := fl4.there
        have S4 := (J.landed nb fl4.1 ((up.trans upg).trans up4) os ag : Inv X pins σ' H' { s' with heap := g4 }).suite he4 hd4 na nL nF
        refine store_ok (X := X.suite a ((a, oe4) :: (X.pn ++ pins))) (v := .ref a) S4 hN hi loc rfl (fun t5 S5 => ?_) (.inr hln)
        refine wpAny_mono ((su a oe4 cls d (X.pn ++ pins) hz4 ⟨_, hd4⟩).run [] t5 _ H' _ S5 (yes rfl a na)) (fun f t6 q => ?_) (fun _ _ z => False.elim z)
        have fin : ∀ {σ6 : L2.St} {H6 : Hp} {Q : Shared → Prop}, Inv (X.suite a ((a, oe4) :: (X.pn ++ pins))) [] σ6 H6 t6 → (∀ t7, Inv X pins (σ6.set i none) H6 t7 → Q t7) →
            wpAny (model X.prog X.w) X.A (do bindName X.env n .none; unbindBehindTheSuite X.env n p1) (fun _ t7 => Q t7) X.xe t6 := fun {σ6 H6 Q} S6 hq => gone_ok (S6.unsuite ok) hN hi hln hq
        cases f with
        | next =>
          obtain ⟨_, _, S6, q6⟩ := q
          exact fin S6 fun t7 J7 => ⟨_, _, J7, q6⟩
        | brk =>
          obtain ⟨_, _, S6, q6⟩ := q
          exact fin S6 fun t7 J7 => ⟨_, _, J7, q6⟩
        | cont =>
          obtain ⟨_, _, S6, q6⟩ := q
          exact fin S6 fun t7 J7 => ⟨_, _, J7, q6⟩
        | ret u =>
          obtain ⟨_, _, _, S6, r6, q6⟩ := q
          exact fin S6 fun t7 J7 => ⟨_, _, _, J7, r6, q6⟩
  · cases f with
    | next =>
      obtain ⟨_, _, J, q⟩ := q
      exact wpAny_execs_nil ⟨_, _, J.ofTry ok, q⟩
    | brk =>
      obtain ⟨_, _, J, q⟩ := q
      exact ⟨_, _, J.ofTry ok, q⟩
    | cont =>
      obtain ⟨_, _, J, q⟩ := q
      exact ⟨_, _, J.ofTry ok, q⟩
    | ret u =>
      obtain ⟨_, _, _, J, r, q⟩ := q
      exact ⟨_, _, _, J.ofTry ok, r, q⟩
end
end Ov

set_option Elab.async false
set_option linter.all false
set_option maxRecDepth 100000
set_option maxHeartbeats 2000000
namespace OvT
open PySem PySem.Spec PyProof.Rows L2
section
variable {prog : Program} {w : World} {A : Around} {E : Value → Shared → Prop} {s : Shared}
/-- the end of a dict's iterator; the iterator stands -/
theorem key_end {z d : Addr} {i m ep : Nat} {od : Obj} {es : Array DictEntry} {Q : Option Value → Shared → Prop} (calm : A.handled = none) (hz : s.heap.IsKeyIter z d i m ep) (gd : s.heap.get? d = some od) (dd : od.data = .dict es ep) (size_ : es.size = m) (past : m ≤ i)
    (fin : ∀ h', Heap.ExtBut z s.heap h' → (∃ u, h'.get? z = some u) → Q none { s with heap := h' }) : wpAny (model prog w) A (pyNext (.ref z)) Q E s := by
  obtain ⟨oz, gz, cz, dz⟩ := id hz
  unfold pyNext
  refine wpAny_bind (wpAny_attempt (wpAny_callSpecial?_slot (name := Str.ofString "__next__") hz.typeIs F.slot_dict_keyiterator_next (wpAny_call_entry F.slot_dict_keyiterator_next hz.typeIs F.entry_dict_keyiterator_next ?_ (F.args_dict_keyiterator_next_1 _))))
  refine wpAny_bind (wpAny_pure ?_)
  refine wpAny_bind (wpAny_bind ?_)
  first
    | refine wpAny_bind (wpAny_typeNameOfWhole_keyiter hz.typeIs (wpAny_pure ?_))
    | refine wpAny_bind (wpAny_typeNameOf_keyiter hz.typeIs (wpAny_pure ?_))
  refine wpAny_bind (wpAny_fieldsOf gz dz ?_)
  simp only [show Builtin.Dict_items.ownsTuple "dict_keyiterator" = false by decide, Bool.false_eq_true, if_false]
  show wpAny _ _ (if (Value.ref d == Value.none) = true then _ else _) _ _ s
  rw [if_neg (show ¬ ((Value.ref d == Value.none) = true) from Bool.false_ne_true)]
  refine wpAny_bind (wpAny_pure (wpAny_bind (wpAny_dictEntries gd dd ?_)))
  rw [if_neg (by rw [size_]; simp)]
  refine wpAny_bind (wpAny_pure (wpAny_bind (wpAny_dictEpoch gd dd ?_)))
  rw [if_neg (by simp)]
  refine wpAny_pure ?_
  have le : es.size ≤ i := by rw [size_]; exact past
  simp only [show ¬ ((i : Int) < 0) by omega, if_false, Int.toNat_natCast, Array.getElem?_eq_none le]
  refine wpAny_bind ?_
  first
    | refine wpAny_bind (wpAny_typeNameOfWhole_keyiter hz.typeIs (wpAny_pure ?_))
    | refine wpAny_bind (wpAny_typeNameOf_keyiter hz.typeIs (wpAny_pure ?_))
  show wpAny _ _ (setField (.ref z) 0 .none >>= _) _ _ s
  refine wpAny_bind (wpAny_setField gz dz (by simp) ?_)
  show wpAny _ _ (newExc (.type "StopIteration") List.nil >>= _) _ _ _
  refine wpAny_bind ?_
  simp only [newExc, newTuple]
  refine wpAny_bind (wpAny_newObj_type ?_ (by size_fits))
  refine wpAny_bind (m := firstArgMember _ _) (wpAny_of_eq (a := Value.none) (by first | rfl | (simp only [firstArgMember] <;> rfl)) ?_)
  refine wpAny_newObj_type ?_ (by size_fits)
  simp only [raiseNew]
  refine wpAny_bind (wpAny_handled ?_)
  first | rw [show A.in1.handled = none from calm] | rw [calm]
  refine wpAny_bind (wpAny_pure (wpAny_throw ?_))
  refine wpAny_bind (wpAny_isInstance (T := "StopIteration") (b := true) ⟨_, Heap.get?_push_size _ rfl, rfl⟩ isSubtype_stop ?_)
  refine wpAny_pure (fin _ (((Heap.SameBut.update ..).extBut.push _).push _) ⟨_, Heap.get?_push_of_some _ (Heap.get?_push_of_some _ (Heap.get?_update_self _ gz (Obj.isFreed_of_fields (Obj.data_mapFields dz _))))⟩)
end
end OvT
namespace Ov
open PySem PySem.Spec PyProof.Rows L2
/-! ### a dict's iterator, the dict locked -/
def DItO (o : Obj) (d z : Addr) (i m : Nat) : HO := .ext fun h => ∃ es ep, o.data = .dict es ep ∧ h.IsKeyIter z d i m ep
theorem dit_ok {P : Program} {w : World} {H : Hp} {h : Heap} {o : Obj} {d z : Addr} {i m : Nat} {es : Array DictEntry} {ep : Nat} (e0 : o.data = .dict es ep) (e : h.IsKeyIter z d i m ep) : ObjOk P w H h z (DItO o d z i m) := ⟨⟨es, ep, e0, e⟩, (let ⟨o, g, _⟩ := e; ⟨o, g⟩), fun h1 h2 ⟨es, ep, e0, q⟩ k => ⟨es, ep, e0, q.at k⟩⟩
def rIterD : List V → Hp → VK → Prop := fun xs H Q => ∃ (d : Addr) (o : Obj) (kvs : List (Key × V)), xs = [.ref d] ∧ H d = some (.frz o (.dK kvs)) ∧ ∀ z, H z = none → Q (.ref z) (upd H z (DItO o d z 0 kvs.length))
theorem call_iterD {X : Cx} : CallR X (.builtin "iter") rIterD := by
  intro pins s σ H xs us Q I r h
  obtain ⟨d, o, kvs, rfl, hd, q⟩ := h
  obtain ⟨u, rfl, ru⟩ := vals1 r
  cases ru
  obtain ⟨hs, gd, hx, es, ep, vs, dd, size_, kv, at_⟩ := I.frzK hd
  have fin : wpAny (model X.prog X.w) X.A.in1 (pyIter (.ref d)) (fun v s' => EP X pins σ Q v s') X.xe s := by
    refine iter_keys hs gd hx dd ?_
    exact ⟨.ref s.heap.objs.size, _, I.laid (t' := s.toks) (fun b u e => Heap.get?_push_of_some _ e) (Nat.le_refl _) (dit_ok dd ⟨_, Heap.get?_push_size _ rfl, rfl, by rw [size_]; rfl⟩), rfl, q _ (I.hok.fresh (Nat.le_refl _))⟩
  refine Calls.call_function_entry (by decide +kernel) (by decide +kernel) PySem.W.kdk_entry_iter (PySem.W.kdk_args_iter _) ?_
  unfold Builtin.«iter»
  refine wpAny_bind (m := someArgs "iter" 1 2 _) (wpAny_of_eq (a := [Value.ref d]) (by first | rfl | kernel_rfl!) ?_)
  show wpAny _ _ (pyIter (.ref d) >>= _) _ _ _
  exact wpAny_bind (wpAny_mono fin (fun v s' z => wpAny_pure ⟨_, rfl, z⟩) fun _ _ z => z)
section
variable {X : Cx} {pins : List (Addr × Obj)} {σ : L2.St} {H : Hp} {s : Shared} {o : Obj} {d z : Addr} {i : Nat} {kvs : List (Key × V)} {A : Around} {E : Value → Shared → Prop} {Q : Option Value → Shared → Prop}
theorem dit_item {k : Key} {x : V} (I : Inv X pins σ H s) (ez : H z = some (DItO o d z i kvs.length)) (ed : H d = some (.frz o (.dK kvs))) (hx : kvs[i]? = some (k, x)) (hQ : ∀ u s', RelV (kV k) u → Inv X pins σ (upd H z (DItO o d z (i + 1) kvs.length)) s' → Q (some u) s') :
    wpAny (model X.prog X.w) A (pyNext (.ref z)) Q E s := by
  obtain ⟨es, ep, e0, hz⟩ := (I.hok z _ ez).1
  obtain ⟨_, gd, _, es2, ep2, vs, dd, size_, kv, at_⟩ := I.frzK ed
  obtain ⟨rfl, rfl⟩ := dict_ep e0 dd
  have hl : kvs.length = vs.length := Paired.length kv
  obtain ⟨u, hu, ru⟩ := kv_get kv hx
  have mu : Mut (H z) := by rw [ez]; exact True.intro
  rw [hl] at hz
  refine wpAny_pyNext_dict_item hz at_ hu fun key h' hkey st sb => hQ key _ (relV_key (show keyIs k key = true from hkey)) ?_
  rw [← hl] at st
  exact I.write (x := z) (e := z) (t' := s.toks) mu (.inl rfl) (fun b o nb g => (sb.2 b nb).trans g) (let ⟨o, g, _⟩ := st; ⟨o, g⟩) (dit_ok e0 st)
theorem dit_end (calm : A.handled = none) (I : Inv X pins σ H s) (ez : H z = some (DItO o d z i kvs.length)) (ed : H d = some (.frz o (.dK kvs))) (past : kvs.length ≤ i) (hQ : ∀ s', Inv X pins σ (upd H z (TEnd z)) s' → Q none s') :
    wpAny (model X.prog X.w) A (pyNext (.ref z)) Q E s := by
  obtain ⟨es, ep, e0, hz⟩ := (I.hok z _ ez).1
  obtain ⟨_, gd, _, es2, ep2, vs, dd, size_, kv, at_⟩ := I.frzK ed
  obtain ⟨rfl, rfl⟩ := dict_ep e0 dd
  have mu : Mut (H z) := by rw [ez]; exact True.intro
  refine OvT.key_end calm hz gd dd size_ past fun h' eb ge => hQ _ ?_
  exact I.write (x := z) (e := z) (t' := s.toks) mu (.inl rfl) (fun b o nb g => eb b o nb g) ge (tend_ok ge)
/-- the rest of a dict's iterator is put into a list -/
theorem ext_dict {q : Addr} {Rs : Result → Shared → Prop} {A1 : Around} (calm : A1.handled = none) (nq : q ≠ z) (hxs : kvs.length < sizeLine) :
    ∀ (n i : Nat) (H : Hp) (s : Shared), n = kvs.length - i → i ≤ kvs.length → Inv X pins σ H s → H z = some (DItO o d z i kvs.length) → H d = some (.frz o (.dK kvs)) → H q = some (.lst ((kvs.map fun kv => kV kv.1).take i)) →
      (∀ H' s', (∀ b, b ≠ z → b ≠ q → H' b = H b) → H' z = some (TEnd z) → H' q = some (.lst (kvs.map fun kv => kV kv.1)) → Inv X pins σ H' s' → Rs (.ok (.ret .none)) s') →
      codeAny (model X.prog X.w) A1 (.builtin "list.extend.loop" ⟨[.ref q, .ref z, .none], []⟩) Rs s := by
  have hm : (kvs.map fun kv => kV kv.1).length = kvs.length := List.length_map _
  intro n
  induction n with
  | zero =>
    intro i H s hn hi I ez ed eq_ fin
    have e : i = kvs.length := by omega
    subst e
    refine codeAny_builtin PySem.F.entry_extend_loop ?_
    rw [Around.under_plainId PySem.F.plain_extend_loop _]
    show wpAny _ A1.in1 (pyNext (.ref z) >>= _) _ _ s
    refine wpAny_bind (dit_end (A := A1.in1) calm I ez ed (Nat.le_refl _) fun s' I' => ?_)
    refine wpAny_pure (fin (upd H z (TEnd z)) s' (fun b h1 h2 => upd_ne h1) upd_same ?_ I')
    rw [upd_ne nq, eq_, ← hm, List.take_length]
  | succ n ih =>
    intro i H s hn hi I ez ed eq_ fin
    have hlt : i < kvs.length := by omega
    obtain ⟨⟨k, x⟩, hkx⟩ : ∃ p, kvs[i]? = some p := ⟨kvs[i], List.getElem?_eq_getElem hlt⟩
    have hkm : (kvs.map fun kv => kV kv.1)[i]? = some (kV k) := by rw [List.getElem?_map, hkx]; rfl
    refine codeAny_builtin PySem.F.entry_extend_loop ?_
    rw [Around.under_plainId PySem.F.plain_extend_loop _]
    show wpAny _ A1.in1 (pyNext (.ref z) >>= _) _ _ s
    have dz : d ≠ z := ne_of ed ez (fun w => nomatch w)
    have dq : d ≠ q := ne_of ed eq_ (fun w => nomatch w)
    refine wpAny_bind (dit_item (A := A1.in1) I ez ed hkx fun u s' ru I' => ?_)
    have eq1 : upd H z (DItO o d z (i + 1) kvs.length) q = some (.lst ((kvs.map fun kv => kV kv.1).take i)) := by rw [upd_ne nq]; exact eq_
    obtain ⟨w1, its, kk, r2, hl, e⟩ := I'.lstM eq1
    show wpAny _ A1.in1 (updateSeq q (·.push u) >>= _) _ _ _
    have l2 : ((kvs.map fun kv => kV kv.1).take i).length = i := by rw [List.length_take]; omega
    refine wpAny_bind (wpAny_updateSeq e rfl (wpAny_pure ⟨plainId_quiet PySem.F.plain_extend_loop _, ?_⟩) (by rw [List.size_toArray]; omega) (by show (its.toArray.push u).size ≤ sizeLine + 1; rw [Array.size_push, List.size_toArray]; omega))
    have tk : (kvs.map fun kv => kV kv.1).take (i + 1) = (kvs.map fun kv => kV kv.1).take i ++ [kV k] := by rw [List.take_succ, hkm]; rfl
    have I2 := I'.lset (f := (·.push u)) (its' := its ++ [u]) (ys := (kvs.map fun kv => kV kv.1).take (i + 1)) (t' := s'.toks) eq1 e (by simp) (by rw [tk]; exact r2.append (.cons ru .nil)) (by rw [List.length_take]; omega)
    refine ih (i + 1) _ _ (by omega) hlt I2 ?_ ?_ upd_same ?_
    · rw [upd_ne (Ne.symm nq), upd_same]
    · rw [upd_ne dq, upd_ne dz]; exact ed
    · intro H' s'' h1 h2 h3 I3
      exact fin H' s'' (fun b nb nb' => by rw [h1 b nb nb', upd_ne nb', upd_ne nb]) h2 h3 I3
end
section
variable {X : Cx} {pins : List (Addr × Obj)} {σ : L2.St} {C : Addr} {k : Nat} {psI psL : List Str} {spI spL : Sp}
/-- list(o), o an own object whose __iter__ gives a locked dict's iterator -/
def rListOD (C : Addr) (spI spL : Sp) : List V → Hp → VK → Prop := fun xs H Q => ∃ a dx fs, xs = [.ref a] ∧ H a = some (.ins C dx fs) ∧ ∀ q, H q = none →
  spI [.ref a] (upd H q (.lst [])) (fun v H1 => ∃ (z d : Addr) (o : Obj) (kvs : List (Key × V)), v = .ref z ∧ H1 z = some (DItO o d z 0 kvs.length) ∧ H1 d = some (.frz o (.dK kvs)) ∧ kvs.length < sizeLine ∧ H1 q = some (.lst []) ∧ (∃ dx fs, H1 a = some (.ins C dx fs)) ∧
    spL [.ref a] H1 (fun v H' => ∃ n : Nat, v = .int n ∧ n ≤ sizeLine ∧ H' = H1) E0 ∧ Q (.ref q) (upd (ItX.dropH H1 z) q (.lst (kvs.map fun kv => kV kv.1)))) E0
theorem call_listOD (MI : MCal X.prog X.w X.K X.mg X.base CX0 k C "__iter__" psI spI) (ML : MCal X.prog X.w X.K X.mg X.base CX0 k C "__len__" psL spL) (hr : Room (k + 3) X.A) : CallR X (.type "list") (rListOD C spI spL) := by
  intro pins s σ H xs us Q I rv h
  obtain ⟨a, dx, fs, rfl, ha, hq⟩ := h
  obtain ⟨u, rfl, ru⟩ := vals1 rv
  cases ru
  have r1 : Room (k + 2) X.A.in1 := hr.in1
  have r2 : Room (k + 1) X.A.in1.in1 := r1.in1
  have r3 : Room k X.A.in1.in1 := r2.mono (Nat.le_succ k)
  refine callType_codes (Q₁ := fun obj s₁ => obj = .ref s.heap.objs.size ∧ s₁ = { s with heap := s.heap.push { cls := .type "list", data := .seq #[] } }) PySem.F.called_list (PySem.F.typeCall_list_1 _) PySem.F.entry_list_init (code_list_new _ ⟨rfl, rfl⟩) fun obj s₁ h₁ => ?_
  obtain ⟨rfl, rfl⟩ := h₁
  have hS : (s.heap.push { cls := .type "list", data := .seq #[] }).get? s.heap.objs.size = some { cls := .type "list", data := .seq #[] } := Heap.get?_push_size _ rfl
  refine ⟨⟨_, hS, rfl⟩, PySem.F.args_list_init_2 _ _, ?_⟩
  have fr : H s.heap.objs.size = none := I.hok.fresh (Nat.le_refl _)
  have hsp := hq _ fr
  have I1 : Inv X pins σ (upd H s.heap.objs.size (.lst [])) { s with heap := s.heap.push { cls := .type "list", data := .seq #[] } } := I.lnew (its := []) (t' := s.toks) .nil (Nat.zero_le _)
  show wpAny _ _ (do let old ← Builtin.List.listItems (.ref s.heap.objs.size); Builtin.List.listUpdate (.ref s.heap.objs.size) (fun _ => #[]); letGo old.toList.reverse; Builtin.List.listExtendWith (.ref s.heap.objs.size) (.ref a) .none) _ _ _
  refine wpAny_bind ?_
  unfold Builtin.List.listItems
  refine wpAny_bind (wpAny_seqItems hS rfl (wpAny_pure ?_))
  show wpAny _ _ (updateSeq s.heap.objs.size (fun _ => #[]) >>= fun _ => letGo (#[] : Array Value).toList.reverse >>= fun _ => Builtin.List.listExtendWith (.ref s.heap.objs.size) (.ref a) .none) _ _ _
  refine wpAny_bind (wpAny_updateSeq hS rfl ?_)
  have I2 := I1.lset (f := fun _ => #[]) (its := []) (its' := []) (ys := []) (t' := s.toks) upd_same hS rfl .nil (Nat.zero_le _)
  rw [upd_upd] at I2
  refine wpAny_bind (wpAny_letGo ?_)
  have ha2 : upd H s.heap.objs.size (.lst []) a = some (.ins C dx fs) := by rw [upd_ne (ne_of_none ha fr)]; exact ha
  generalize s.heap.objs.size = q at *
  have hne : q ≠ a := ne_of (upd_same (H := H) (o := .lst [])) ha2 (fun z => nomatch z)
  obtain ⟨fI, fdI, FI, hmI, bI, fiI⟩ := MI
  obtain ⟨mA, J, _⟩ := ins_get I2.hok ha2
  obtain ⟨od, J, _⟩ := J.look
  obtain ⟨m0, hF⟩ := I2.fr
  unfold Builtin.List.listExtendWith
  refine wpAny_bind (J.type.here ?_)
  have h1 : Builtin.List.listSameRef (.ref q) (.ref a) = false := by simp [Builtin.List.listSameRef, hne]
  have h2 : (Value.ref C == Value.type "list") = false := rfl
  have h3 : (Value.ref C == Value.type "tuple") = false := rfl
  simp only [h1, h2, h3, Bool.or_false, Bool.false_eq_true, if_false]
  refine wpAny_bind (PySem.W.owit_iter hF I2.ok.mod.kin J hmI.at_ hmI.fn ?_)
  refine wpAny_mono (run_at0 (A := X.A.in1.in1) (vs := [.ref a]) FI r3 rfl bI I2 (.cons rfl .nil) hsp) (fun r s' zz => ?_) fun _ _ x => x
  obtain ⟨v, H1, I3, rv3, z, y, o, kvs, rfl, ez, ey, hl, eq_, ⟨dx', fs', ea⟩, hL, q3⟩ := zz
  cases rv3
  obtain ⟨es0, ep0, _, hz⟩ := (I3.hok z _ ez).1
  unfold PySem.W.OwitIt
  refine wpAny_specialOf hz.typeIs PySem.F.slot_dict_keyiterator_next.lookup ?_
  show wpAny _ _ _ _ _ _
  refine wpAny_bind (wpAny_holding (hint_own ML r2 rfl I3 ea hL fun b s4 I4 => ?_))
  have nq : q ≠ z := ne_of eq_ ez (fun w => nomatch w)
  have loop : ∀ s5, Inv X pins σ H1 s5 → codeAny (model X.prog X.w) X.A.in1 (.builtin "list.extend.loop" ⟨[.ref q, .ref z, .none], []⟩) (wants (fun r s₂ => r = .none ∧ EP X pins σ Q (.ref q) s₂) X.xe) s5 := fun s5 I5 => by
    refine ext_dict (A1 := X.A.in1) hr.hd nq hl kvs.length 0 H1 s5 (by omega) (Nat.zero_le _) I5 ez ey (by rw [eq_]; rfl) fun H' s6 g1 g2 g3 I6 => ?_
    have I7 := ItX.inv_drop I6 g2
    have eH : ItX.dropH H' z = upd (ItX.dropH H1 z) q (.lst (kvs.map fun kv => kV kv.1)) := by
      funext b
      by_cases bz : b = z
      · rw [bz, ItX.dropH_same, upd_ne (Ne.symm nq), ItX.dropH_same]
      · rw [ItX.dropH_ne bz]
        by_cases bq : b = q
        · rw [bq, g3, upd_same]
        · rw [upd_ne bq, ItX.dropH_ne bz, g1 b bz bq]
    rw [eH] at I7
    exact ⟨rfl, .ref q, _, I7, rfl, q3⟩
  obtain ⟨w1, its, kk, r4, hl4, e4⟩ := I4.lstM eq_
  cases r4
  refine wpAny_ite_split (fun _ => ?_) (fun _ => wpAny_pure ⟨plainId_quiet PySem.F.plain_extend_loop _, loop s4 I4⟩)
  refine wpAny_bind (wpAny_rule (wpAny_bind ?_))
  show wpAny _ _ (updateSeq q (·.push .none) >>= fun _ => updateSeq q (·.pop)) _ _ _
  refine wpAny_bind (wpAny_updateSeq e4 rfl ?_)
  have I5 := I4.lset (f := (·.push Value.none)) (its' := [Value.none]) (ys := [.non]) (t' := s4.toks) eq_ e4 (by simp) (.cons rfl .nil) (by rw [List.length_singleton, sizeLine_eq]; decide)
  obtain ⟨w2, its5, k5, r5, hl5, e5⟩ := I5.lstM upd_same
  obtain ⟨u5, rfl, ru5⟩ := r5.one
  refine wpAny_updateSeq e5 rfl ?_ (by show 1 ≤ sizeLine; rw [sizeLine_eq]; decide) (by show 0 ≤ sizeLine + 1; exact Nat.zero_le _)
  refine wpAny_pure ⟨plainId_quiet PySem.F.plain_extend_loop _, loop _ ?_⟩
  have I6 := I5.lset (f := (·.pop)) (its := [u5]) (its' := []) (ys := []) (t' := s4.toks) upd_same e5 (by rfl) .nil (Nat.zero_le _)
  rw [upd_upd] at I6
  have hH : upd H1 q (.lst []) = H1 := by
    funext b
    by_cases hb : b = q
    · rw [hb, upd_same, eq_]
    · rw [upd_ne hb]
  rw [hH] at I6
  exact I6
end
theorem call_listOD2 {X : Cx} {C : Addr} {j1 j2 : Nat} {psI psL : List Str} {spI spL : Sp} (MI : MCal X.prog X.w X.K X.mg X.base CX0 j1 C "__iter__" psI spI) (ML : MCal X.prog X.w X.K X.mg X.base CX0 j2 C "__len__" psL spL) (hr : Room (j1 + j2 + 3) X.A) : CallR X (.type "list") (rListOD C spI spL) :=
  call_listOD (MI.mono (Nat.le_add_right j1 j2)) (ML.mono (Nat.le_add_left j2 j1)) hr
/-! ### list.insert, the order of data, while -/
def rInsert : V → List V → Hp → VK → Prop := fun x vs H Q => ∃ (l : Addr) (xs : List V) (i : Int) (y : V), x = .ref l ∧ vs = [.int i, y] ∧ H l = some (.lst xs) ∧ xs.length < sizeLine ∧ 0 ≤ i ∧ i < 2 ^ 63 ∧ Q .non (upd H l (.lst (xs.take i.toNat ++ [y] ++ xs.drop i.toNat)))
theorem mt_rInsert {X : Cx} : MtR X "list.insert" rInsert := mt_insert
def rLtD (K : PySem.W.Frag) : R2 := fun x y H Q => ∃ d e, Dp K H x d ∧ Dp K H y e ∧ PySem.W.alike d e = true ∧ d ≠ .none ∧ d.depth ≤ 60 ∧ Q (.bl (PySem.W.dataLt d e)) H
def oLtD (K : PySem.W.Frag) : R2 := fun x y H Q => oLt x y H Q ∨ rLtD K x y H Q
theorem op_rLtD {X : Cx} (hu : X.A.units + 65 < cLine) : OpR X (compareOp .Lt) (rLtD X.K) := by
  intro pins s σ H x y v u Q I rx ry h
  obtain ⟨d, e, hx, hy, al, nn, dp, q⟩ := h
  obtain ⟨as, ra⟩ := Dp.reads I d x v hx rx
  obtain ⟨bs, rb⟩ := Dp.reads I e y u hy ry
  exact PySem.W.rcLt_alike d e X.A s v u as bs ra rb al nn (by omega) X.prog X.w X.xe _ ⟨.bl _, H, I, rfl, q⟩
theorem op_oLtD {X : Cx} (hu : X.A.units + 65 < cLine) : OpR X (compareOp .Lt) (oLtD X.K) := OpR.or op_oLt (op_rLtD hu)
/-- a loop over the keys of a dict that is locked for it -/
theorem walk_keys {d : Addr} {o : Obj} {kvs : List (Key × V)} : Walk (Itk d o kvs) kvs.length (fun H => H d = some (.frz o (.dK kvs))) (fun i H x H' => H' = H ∧ (kvs.map fun kv => kV kv.1)[i]? = some x) := by
  constructor
  · intro i H hi hg; exact ⟨hg, hi⟩
  · intro H hg; exact ⟨hg, Nat.le_refl _⟩
  · rintro i H x H' hi hg ⟨e, k, v, hk, rfl⟩
    exact ⟨e, by rw [List.getElem?_map, hk]; rfl⟩
end Ov

set_option Elab.async false
set_option linter.all false
set_option maxRecDepth 100000
/-! ### programs over data: the heap is told once, here; readings become readings over data (An), and a promise over data is enough -/
namespace An
open PySem PySem.Spec PyProof.Rows L2 Ov

/-- data that no longer changes -/
inductive D where
  | non | bl (b : Bool) | int (i : Int) | str (x : Str) | ty (n : String) | ad (a : Addr)
  | tup (l : List D)
  | lst (l : List D)
  | dct (l : List (Key × D))
  | obj (C : Addr) (fs : List (Str × D))
/-- where we are: what no longer changes, the addresses of what does, the heap -/
structure W where
  G : Addr → Prop
  as : List Addr
  H : Hp
  nd : as.Nodup
  live : ∀ a, G a → ∃ o, H a = some o
  alive : ∀ a ∈ as, ∃ o, H a = some o

def Fx (w : W) (a : Addr) (φ : Hp → Prop) : Prop := ∀ H', (w.G a → H' a = w.H a) → φ H'
mutual
inductive RV (K : PySem.W.Frag) (w : W) : V → D → Prop
  | non : RV K w .non .non
  | bl (b : Bool) : RV K w (.bl b) (.bl b)
  | int (i : Int) : RV K w (.int i) (.int i)
  | str (x : Str) : RV K w (.str x) (.str x)
  | ty (n : String) : RV K w (.ty n) (.ty n)
  | ad (a : Addr) : RV K w (.ref a) (.ad a)
  | tup {a : Addr} {xs : List V} {ds : List D} : Fx w a (fun H => SqT K H a xs) → RVs K w xs ds → RV K w (.ref a) (.tup ds)
  | lst {a : Addr} {xs : List V} {ds : List D} : Fx w a (fun H => SqL K H a xs) → RVs K w xs ds → RV K w (.ref a) (.lst ds)
  | dct {a : Addr} {xs : List (Key × V)} {ds : List (Key × D)} : w.G a → w.H a = some (.dK xs) → RVk K w xs ds → RV K w (.ref a) (.dct ds)
  | obj {a C dx : Addr} {xs : List (Str × V)} {ds : List (Str × D)} : w.G a → w.H a = some (.ins C dx xs) → RVf K w xs ds → RV K w (.ref a) (.obj C ds)
inductive RVs (K : PySem.W.Frag) (w : W) : List V → List D → Prop
  | nil : RVs K w [] []
  | cons {x : V} {d : D} {xs : List V} {ds : List D} : RV K w x d → RVs K w xs ds → RVs K w (x :: xs) (d :: ds)
inductive RVk (K : PySem.W.Frag) (w : W) : List (Key × V) → List (Key × D) → Prop
  | nil : RVk K w [] []
  | cons {k : Key} {x : V} {d : D} {xs : List (Key × V)} {ds : List (Key × D)} : RV K w x d → RVk K w xs ds → RVk K w ((k, x) :: xs) ((k, d) :: ds)
inductive RVf (K : PySem.W.Frag) (w : W) : List (Str × V) → List (Str × D) → Prop
  | nil : RVf K w [] []
  | cons {k : Str} {x : V} {d : D} {xs : List (Str × V)} {ds : List (Str × D)} : RV K w x d → RVf K w xs ds → RVf K w ((k, x) :: xs) ((k, d) :: ds)
end
/-- later: what is fixed stays, what is not ours stays -/
structure Le (w w' : W) : Prop where
  kG : ∀ a, w.G a → w'.H a = w.H a
  k : ∀ a o, w.H a = some o → a ∉ w.as → w'.H a = some o
  al : ∀ a o, w.H a = some o → ∃ o', w'.H a = some o'
  g1 : ∀ a, w.G a → w'.G a
  g2 : ∀ a, w'.G a → w.G a ∨ w.H a = none ∨ a ∈ w.as
  as1 : ∀ a ∈ w'.as, a ∈ w.as ∨ w.H a = none
  pre : ∃ more, w'.as = w.as ++ more
theorem Le.refl (w : W) : Le w w := ⟨fun _ _ => rfl, fun _ _ h _ => h, fun _ o h => ⟨o, h⟩, fun _ h => h, fun _ h => .inl h, fun _ h => .inl h, [], (List.append_nil _).symm⟩
theorem Le.nn {w w' : W} (l : Le w w') {a : Addr} (h : w'.H a = none) : w.H a = none := by
  cases e : w.H a with
  | none => rfl
  | some o => obtain ⟨o', e'⟩ := l.al a o e; rw [h] at e'; cases e'
theorem Le.trans {w w1 w2 : W} (p : Le w w1) (q : Le w1 w2) : Le w w2 := by
  refine ⟨fun a h => (q.kG a (p.g1 a h)).trans (p.kG a h), fun a o h na => q.k a o (p.k a o h na) fun z => ?_, fun a o h => ?_, fun a h => q.g1 a (p.g1 a h), fun a h => ?_, fun a h => ?_, ?_⟩
  · rcases p.as1 a z with z | z
    · exact na z
    · rw [h] at z; cases z
  · obtain ⟨o', h'⟩ := p.al a o h
    exact q.al a o' h'
  · rcases q.g2 a h with z | z | z
    · exact p.g2 a z
    · exact .inr (.inl (p.nn z))
    · rcases p.as1 a z with z | z
      · exact .inr (.inr z)
      · exact .inr (.inl z)
  · rcases q.as1 a h with z | z
    · exact p.as1 a z
    · exact .inr (p.nn z)
  · obtain ⟨m, e⟩ := p.pre
    obtain ⟨m', e'⟩ := q.pre
    exact ⟨m ++ m', by rw [e', e, List.append_assoc]⟩
theorem Fx.mono {w w' : W} (kG : ∀ a, w.G a → w'.H a = w.H a) (g1 : ∀ a, w.G a → w'.G a) {a : Addr} {φ : Hp → Prop} (h : Fx w a φ) : Fx w' a φ := fun H' e => h H' fun g => (e (g1 a g)).trans (kG a g)
section
variable {K : PySem.W.Frag} {w w' : W}
mutual
theorem RV.monoG (kG : ∀ a, w.G a → w'.H a = w.H a) (g1 : ∀ a, w.G a → w'.G a) : ∀ {x : V} {d : D}, RV K w x d → RV K w' x d
  | _, _, .non => .non
  | _, _, .bl b => .bl b
  | _, _, .int i => .int i
  | _, _, .str x => .str x
  | _, _, .ty n => .ty n
  | _, _, .ad a => .ad a
  | _, _, .tup f r => .tup (f.mono kG g1) (RVs.monoG kG g1 r)
  | _, _, .lst f r => .lst (f.mono kG g1) (RVs.monoG kG g1 r)
  | _, _, .dct g h r => .dct (g1 _ g) ((kG _ g).trans h) (RVk.monoG kG g1 r)
  | _, _, .obj g h r => .obj (g1 _ g) ((kG _ g).trans h) (RVf.monoG kG g1 r)
theorem RVs.monoG (kG : ∀ a, w.G a → w'.H a = w.H a) (g1 : ∀ a, w.G a → w'.G a) : ∀ {x : List V} {d : List D}, RVs K w x d → RVs K w' x d
  | _, _, .nil => .nil
  | _, _, .cons r t => .cons (RV.monoG kG g1 r) (RVs.monoG kG g1 t)
theorem RVk.monoG (kG : ∀ a, w.G a → w'.H a = w.H a) (g1 : ∀ a, w.G a → w'.G a) : ∀ {x : List (Key × V)} {d : List (Key × D)}, RVk K w x d → RVk K w' x d
  | _, _, .nil => .nil
  | _, _, .cons r t => .cons (RV.monoG kG g1 r) (RVk.monoG kG g1 t)
theorem RVf.monoG (kG : ∀ a, w.G a → w'.H a = w.H a) (g1 : ∀ a, w.G a → w'.G a) : ∀ {x : List (Str × V)} {d : List (Str × D)}, RVf K w x d → RVf K w' x d
  | _, _, .nil => .nil
  | _, _, .cons r t => .cons (RV.monoG kG g1 r) (RVf.monoG kG g1 t)
end
theorem RV.mono (l : Le w w') {x : V} {d : D} (r : RV K w x d) : RV K w' x d := r.monoG l.kG l.g1
theorem RVs.mono (l : Le w w') {x : List V} {d : List D} (r : RVs K w x d) : RVs K w' x d := r.monoG l.kG l.g1
theorem RVk.mono (l : Le w w') {x : List (Key × V)} {d : List (Key × D)} (r : RVk K w x d) : RVk K w' x d := r.monoG l.kG l.g1
theorem RVf.mono (l : Le w w') {x : List (Str × V)} {d : List (Str × D)} (r : RVf K w x d) : RVf K w' x d := r.monoG l.kG l.g1
theorem RVs.len : ∀ {xs : List V} {ds : List D}, RVs K w xs ds → xs.length = ds.length
  | _, _, .nil => rfl
  | _, _, .cons _ t => by rw [List.length_cons, List.length_cons, RVs.len t]
theorem RVs.get : ∀ {xs : List V} {ds : List D} {i : Nat} {d : D}, RVs K w xs ds → ds[i]? = some d → ∃ x, xs[i]? = some x ∧ RV K w x d
  | _, _, _, _, .nil, e => by cases e
  | _, _, 0, _, .cons r _, e => by cases e; exact ⟨_, rfl, r⟩
  | _, _, i + 1, _, .cons _ t, e => RVs.get (i := i) t e
theorem RVs.app : ∀ {xs ys : List V} {ds es : List D}, RVs K w xs ds → RVs K w ys es → RVs K w (xs ++ ys) (ds ++ es)
  | _, _, _, _, .nil, t => t
  | _, _, _, _, .cons r s, t => .cons r (RVs.app s t)
theorem RVs.take : ∀ {xs : List V} {ds : List D} (n : Nat), RVs K w xs ds → RVs K w (xs.take n) (ds.take n)
  | _, _, 0, _ => .nil
  | _, _, _ + 1, .nil => .nil
  | _, _, n + 1, .cons r t => .cons r (RVs.take n t)
theorem RVs.drop : ∀ {xs : List V} {ds : List D} (n : Nat), RVs K w xs ds → RVs K w (xs.drop n) (ds.drop n)
  | _, _, 0, r => r
  | _, _, _ + 1, .nil => .nil
  | _, _, n + 1, .cons _ t => RVs.drop n t
theorem RVs.set {x : V} {d : D} (r : RV K w x d) : ∀ {xs : List V} {ds : List D} (i : Nat), RVs K w xs ds → RVs K w (xs.set i x) (ds.set i d)
  | _, _, _, .nil => .nil
  | _, _, 0, .cons _ t => .cons r t
  | _, _, i + 1, .cons q t => .cons q (RVs.set r i t)
end
/-- what changes -/
inductive Res where
  | lst (l : List D)
  | dic (l : List (Key × D))
  | ins (C : Addr) (fs : List (Str × D))
  | pool
  | fz (d : D)
/-- the pool of draws -/
def PoolW (w : W) (p : Addr) : Prop := ∃ (l : Addr) (cs : List Int) (a b c d : Int), w.H p = some (.lst [.ref l, .int a, .int b, .int c, .int d]) ∧ w.H l = some (.lst (cs.map V.int)) ∧ l ≠ p ∧ w.G l ∧ 0 ≤ a ∧ 0 ≤ c ∧ c < 10 ^ 18 ∧ d ≤ 7
def RR (K : PySem.W.Frag) (w : W) (a : Addr) : Res → Prop
  | .lst ds => ¬ w.G a ∧ ∃ xs, w.H a = some (.lst xs) ∧ RVs K w xs ds
  | .dic ds => ¬ w.G a ∧ ∃ xs, w.H a = some (.dK xs) ∧ RVk K w xs ds
  | .ins C ds => ¬ w.G a ∧ ∃ dx xs, w.H a = some (.ins C dx xs) ∧ RVf K w xs ds
  | .pool => ¬ w.G a ∧ PoolW w a
  | .fz d => RV K w (.ref a) d
theorem RR.stay {K : PySem.W.Frag} {w w' : W} (l : Le w w') {a : Addr} {r : Res} (h : RR K w a r) (e : w'.H a = w.H a) (g : w'.G a → w.G a) : RR K w' a r := by
  cases r with
  | lst ds => obtain ⟨n, xs, h1, h2⟩ := h; exact ⟨fun z => n (g z), xs, e.trans h1, h2.mono l⟩
  | dic ds => obtain ⟨n, xs, h1, h2⟩ := h; exact ⟨fun z => n (g z), xs, e.trans h1, h2.mono l⟩
  | ins C ds => obtain ⟨n, dx, xs, h1, h2⟩ := h; exact ⟨fun z => n (g z), dx, xs, e.trans h1, h2.mono l⟩
  | pool =>
    obtain ⟨n, q, cs, x, y, z, u, h1, h2, ne, gl, b⟩ := h
    exact ⟨fun z => n (g z), q, cs, x, y, z, u, e.trans h1, (l.kG _ gl).trans h2, ne, l.g1 _ gl, b⟩
  | fz d => exact RV.mono l h
/-- what a value is: data, or the k-th thing that changes -/
inductive Sl where
  | dat (d : D)
  | res (k : Nat)
def RS (K : PySem.W.Frag) (w : W) (v : V) : Sl → Prop
  | .dat d => RV K w v d
  | .res k => ∃ a, w.as[k]? = some a ∧ v = .ref a
theorem RS.mono {K : PySem.W.Frag} {w w' : W} (l : Le w w') {v : V} {s : Sl} (r : RS K w v s) : RS K w' v s := by
  cases s with
  | dat d => exact RV.mono l r
  | res k =>
    obtain ⟨a, e, rfl⟩ := r
    obtain ⟨m, em⟩ := l.pre
    exact ⟨a, by rw [em, List.getElem?_append_left (List.getElem?_eq_some_iff.mp e).1]; exact e, rfl⟩
/-- a def's state over data: its slots, what changes -/
structure ASt where
  δ : List (Option Sl)
  ρ : List Res
structure RsR (K : PySem.W.Frag) (w : W) (ρ : List Res) : Prop where
  len : ρ.length = w.as.length
  at_ : ∀ (k : Nat) (a : Addr) (r : Res), w.as[k]? = some a → ρ[k]? = some r → RR K w a r
structure RE (K : PySem.W.Frag) (w : W) (δ : List (Option Sl)) (σ : L2.St) : Prop where
  len : σ.length = δ.length
  at_ : ∀ (i : Nat) (s : Sl), δ[i]? = some (some s) → ∃ v, σ[i]? = some (some v) ∧ RS K w v s
theorem RE.mono {K : PySem.W.Frag} {w w' : W} (l : Le w w') {δ : List (Option Sl)} {σ : L2.St} (r : RE K w δ σ) : RE K w' δ σ := ⟨r.len, fun i s h => by
  obtain ⟨v, h1, h2⟩ := r.at_ i s h
  exact ⟨v, h1, h2.mono l⟩⟩
theorem RE.set {K : PySem.W.Frag} {w : W} {δ : List (Option Sl)} {σ : L2.St} (r : RE K w δ σ) {v : V} {s : Sl} (h : RS K w v s) (i : Nat) : RE K w (δ.set i (some s)) (σ.set i (some v)) := ⟨by rw [List.length_set, List.length_set, r.len], fun j t e => by
  by_cases hj : i = j
  · subst hj
    rw [List.getElem?_set] at e
    simp only [if_true] at e
    split at e
    · cases e
      exact ⟨v, by rw [List.getElem?_set, if_pos rfl, if_pos (by rw [r.len]; assumption)], h⟩
    · cases e
  · rw [List.getElem?_set_ne hj] at e
    obtain ⟨u, h1, h2⟩ := r.at_ j t e
    exact ⟨u, by rw [List.getElem?_set_ne hj]; exact h1, h2⟩⟩
/-! #### new things -/
theorem not_mem_of {w : W} {p : Addr} (hp : w.H p = none) : p ∉ w.as := fun z => by
  obtain ⟨o, e⟩ := w.alive p z
  rw [hp] at e; cases e
theorem not_G_of {w : W} {p : Addr} (hp : w.H p = none) : ¬ w.G p := fun z => by
  obtain ⟨o, e⟩ := w.live p z
  rw [hp] at e; cases e
theorem upd_some {H : Hp} {p a : Addr} {o : HO} (h : ∃ u, H a = some u) : ∃ u, upd H p o a = some u := by
  by_cases e : a = p
  · rw [e]; exact ⟨o, upd_same⟩
  · rw [upd_ne e]; exact h
/-- a new fixed thing -/
def W.fixed (w : W) (p : Addr) (o : HO) (hp : w.H p = none) : W where
  G := fun a => w.G a ∨ a = p
  as := w.as
  H := upd w.H p o
  nd := w.nd
  live := fun a h => by
    rcases h with h | rfl
    · exact upd_some (w.live a h)
    · exact ⟨o, upd_same⟩
  alive := fun a h => upd_some (w.alive a h)
theorem Le.fixed (w : W) (p : Addr) (o : HO) (hp : w.H p = none) : Le w (w.fixed p o hp) := by
  refine ⟨fun a h => upd_ne fun z => ?_, fun a u h _ => ?_, fun a u h => upd_some ⟨u, h⟩, fun a h => .inl h, fun a h => ?_, fun a h => .inl h, [], (List.append_nil _).symm⟩
  · subst z; exact not_G_of hp h
  · show upd w.H p o a = _
    rw [upd_ne (ne_of_none h hp)]; exact h
  · rcases h with h | rfl
    · exact .inl h
    · exact .inr (.inl hp)
/-- a new thing that changes -/
def W.grown (w : W) (p : Addr) (o : HO) (hp : w.H p = none) : W where
  G := w.G
  as := w.as ++ [p]
  H := upd w.H p o
  nd := by
    rw [List.nodup_append]
    refine ⟨w.nd, List.nodup_cons.mpr ⟨List.not_mem_nil, List.nodup_nil⟩, fun a ha b hb => ?_⟩
    rw [List.mem_singleton] at hb
    subst hb
    intro z; subst z
    exact not_mem_of hp ha
  live := fun a h => upd_some (w.live a h)
  alive := fun a h => by
    rcases List.mem_append.mp h with h | h
    · exact upd_some (w.alive a h)
    · rw [List.mem_singleton] at h; subst h; exact ⟨o, upd_same⟩
theorem Le.grown (w : W) (p : Addr) (o : HO) (hp : w.H p = none) : Le w (w.grown p o hp) := by
  refine ⟨fun a h => upd_ne fun z => ?_, fun a u h _ => ?_, fun a u h => upd_some ⟨u, h⟩, fun a h => h, fun a h => .inl h, fun a h => ?_, [p], rfl⟩
  · subst z; exact not_G_of hp h
  · show upd w.H p o a = _
    rw [upd_ne (ne_of_none h hp)]; exact h
  · rcases List.mem_append.mp h with h | h
    · exact .inl h
    · rw [List.mem_singleton] at h; subst h; exact .inr hp
/-- the thing at a that changes is changed -/
def W.wrote (w : W) (a : Addr) (o : HO) (ha : a ∈ w.as) : W where
  G := w.G
  as := w.as
  H := upd w.H a o
  nd := w.nd
  live := fun b h => upd_some (w.live b h)
  alive := fun b h => upd_some (w.alive b h)
theorem Le.wrote (w : W) (a : Addr) (o : HO) (ha : a ∈ w.as) (ng : ¬ w.G a) : Le w (w.wrote a o ha) := by
  refine ⟨fun b h => upd_ne fun z => ng (z ▸ h), fun b u h nb => ?_, fun b u h => upd_some ⟨u, h⟩, fun b h => h, fun b h => .inl h, fun b h => .inl h, [], (List.append_nil _).symm⟩
  show upd w.H a o b = _
  rw [upd_ne fun z => nb (by rw [z]; exact ha)]; exact h
/-- the thing at a no longer changes -/
def W.frozen (w : W) (a : Addr) (ha : a ∈ w.as) : W where
  G := fun b => w.G b ∨ b = a
  as := w.as
  H := w.H
  nd := w.nd
  live := fun b h => by
    rcases h with h | rfl
    · exact w.live b h
    · exact w.alive b ha
  alive := w.alive
theorem Le.frozen (w : W) (a : Addr) (ha : a ∈ w.as) : Le w (w.frozen a ha) := by
  refine ⟨fun b h => rfl, fun b u h _ => h, fun b u h => ⟨u, h⟩, fun b h => .inl h, fun b h => ?_, fun b h => .inl h, [], (List.append_nil _).symm⟩
  rcases h with h | rfl
  · exact .inl h
  · exact .inr (.inr ha)
section
variable {K : PySem.W.Frag} {w : W} {ρ : List Res}
theorem RsR.get (r : RsR K w ρ) {k : Nat} {x : Res} (h : ρ[k]? = some x) : ∃ a, w.as[k]? = some a ∧ a ∈ w.as ∧ RR K w a x := by
  have hk : k < w.as.length := by rw [← r.len]; exact (List.getElem?_eq_some_iff.mp h).1
  exact ⟨_, List.getElem?_eq_getElem hk, List.getElem_mem hk, r.at_ k _ x (List.getElem?_eq_getElem hk) h⟩
theorem as_mem {k : Nat} {a : Addr} (h : w.as[k]? = some a) : a ∈ w.as := List.mem_of_getElem? h
theorem as_inj {i j : Nat} {a : Addr} (hi : w.as[i]? = some a) (hj : w.as[j]? = some a) : i = j := by
  obtain ⟨h1, e1⟩ := List.getElem?_eq_some_iff.mp hi
  obtain ⟨h2, e2⟩ := List.getElem?_eq_some_iff.mp hj
  have P := List.pairwise_iff_getElem.mp w.nd
  rcases Nat.lt_trichotomy i j with h | h | h
  · exact absurd (e1.trans e2.symm) (P i j h1 h2 h)
  · exact h
  · exact absurd (e2.trans e1.symm) (P j i h2 h1 h)
theorem RsR.fixed (r : RsR K w ρ) {p : Addr} {o : HO} (hp : w.H p = none) : RsR K (w.fixed p o hp) ρ := ⟨r.len, fun k a x h1 h2 => by
  have ne : a ≠ p := fun z => not_mem_of hp (z ▸ as_mem h1)
  exact (r.at_ k a x h1 h2).stay (Le.fixed w p o hp) (upd_ne ne) fun g => g.elim id fun z => absurd z ne⟩
theorem RsR.grown (r : RsR K w ρ) {p : Addr} {o : HO} (hp : w.H p = none) {x : Res} (hx : RR K (w.grown p o hp) p x) : RsR K (w.grown p o hp) (ρ ++ [x]) := ⟨by
  show _ = (w.as ++ [p]).length
  rw [List.length_append, List.length_append, r.len]; rfl, fun k a y h1 h2 => by
  have h1' : (w.as ++ [p])[k]? = some a := h1
  by_cases hk : k < w.as.length
  · rw [List.getElem?_append_left hk] at h1'
    rw [List.getElem?_append_left (by rw [r.len]; exact hk)] at h2
    have ne : a ≠ p := fun z => not_mem_of hp (z ▸ as_mem h1')
    exact (r.at_ k a y h1' h2).stay (Le.grown w p o hp) (upd_ne ne) fun g => g
  · rw [List.getElem?_append_right (by omega)] at h1'
    rw [List.getElem?_append_right (by rw [r.len]; omega), r.len] at h2
    have hz : k - w.as.length = 0 := by
      have := (List.getElem?_eq_some_iff.mp h1').1
      rw [List.length_singleton] at this; omega
    rw [hz] at h1' h2
    cases h1'; cases h2
    exact hx⟩
theorem RsR.upd (r : RsR K w ρ) {k : Nat} {a : Addr} {x : Res} {w' : W} (l : Le w w') (has : w'.as = w.as) (ha : w.as[k]? = some a) (hx : RR K w' a x) (st : ∀ b ∈ w.as, b ≠ a → w'.H b = w.H b ∧ (w'.G b → w.G b)) : RsR K w' (ρ.set k x) := ⟨by rw [List.length_set, has]; exact r.len, fun j b y h1 h2 => by
  rw [has] at h1
  by_cases hj : k = j
  · subst hj
    rw [h1] at ha
    cases ha
    rw [List.getElem?_set, if_pos rfl] at h2
    split at h2
    · cases h2; exact hx
    · cases h2
  · rw [List.getElem?_set_ne hj] at h2
    have ne : b ≠ a := fun z => by subst z; exact hj (as_inj ha h1)
    obtain ⟨e1, e2⟩ := st b (as_mem h1) ne
    exact (r.at_ j b y h1 h2).stay l e1 e2⟩
theorem RsR.wrote (r : RsR K w ρ) {k : Nat} {a : Addr} {o : HO} {x : Res} (ha : w.as[k]? = some a) (ng : ¬ w.G a) (hx : RR K (w.wrote a o (as_mem ha)) a x) : RsR K (w.wrote a o (as_mem ha)) (ρ.set k x) :=
  r.upd (Le.wrote w a o _ ng) rfl ha hx fun b hb ne => ⟨upd_ne ne, fun g => g⟩
end
/-- a thing that changes becomes data -/
def Res.data : Res → Option D
  | .lst l => some (.lst l)
  | .dic l => some (.dct l)
  | .ins C fs => some (.obj C fs)
  | .fz d => some d
  | .pool => none
theorem RsR.frozen {K : PySem.W.Frag} {w : W} {ρ : List Res} (r : RsR K w ρ) {k : Nat} {a : Addr} {x : Res} {d : D} (ha : w.as[k]? = some a) (hx : ρ[k]? = some x) (hd : x.data = some d) :
    RV K (w.frozen a (as_mem ha)) (.ref a) d ∧ RsR K (w.frozen a (as_mem ha)) (ρ.set k (.fz d)) := by
  have l := Le.frozen w a (as_mem ha)
  have q : RV K (w.frozen a (as_mem ha)) (.ref a) d := by
    have h := r.at_ k a x ha hx
    cases x with
    | lst ds =>
      cases hd
      obtain ⟨_, xs, h1, h2⟩ := h
      exact .lst (fun H' e => .inl (.inl (by rw [e (.inr rfl)]; exact h1))) (h2.mono l)
    | dic ds => cases hd; obtain ⟨_, xs, h1, h2⟩ := h; exact .dct (.inr rfl) h1 (h2.mono l)
    | ins C ds => cases hd; obtain ⟨_, dx, xs, h1, h2⟩ := h; exact .obj (.inr rfl) h1 (h2.mono l)
    | pool => cases hd
    | fz e => cases hd; exact RV.mono l h
  refine ⟨q, r.upd l rfl ha q fun b hb ne => ⟨rfl, fun g => g.elim id fun z => absurd z ne⟩⟩
end An

set_option Elab.async false
set_option linter.all false
set_option maxRecDepth 100000
namespace An
open PySem PySem.Spec PyProof.Rows L2 Ov
abbrev AK := Sl → List Res → Prop
abbrev ATE := ASt → AK → Prop
abbrev ATT := ASt → (Bool → List Res → Prop) → Prop
abbrev ATA := ASt → (List Sl → List Res → Prop) → Prop
abbrev ATO := ASt → (Option Int → List Res → Prop) → Prop
abbrev ATG := Sl → ASt → (ASt → Prop) → Prop
/-- an error: its class, its field, what the field holds; what changed before -/
abbrev XA := Addr → Str → D → List Res → Prop
abbrev X0 : XA := fun _ _ _ _ => False
structure AE where
  nx : ASt → Prop
  rt : AK
  bk : ASt → Prop := fun _ => False
  ct : ASt → Prop := fun _ => False
abbrev ATS := AE → ASt → Prop
inductive RSs (K : PySem.W.Frag) (w : W) : List V → List Sl → Prop
  | nil : RSs K w [] []
  | cons {v : V} {s : Sl} {vs : List V} {ss : List Sl} : RS K w v s → RSs K w vs ss → RSs K w (v :: vs) (s :: ss)
theorem RSs.mono {K : PySem.W.Frag} {w w' : W} (l : Le w w') : ∀ {vs : List V} {ss : List Sl}, RSs K w vs ss → RSs K w' vs ss
  | _, _, .nil => .nil
  | _, _, .cons r t => .cons (r.mono l) (RSs.mono l t)
section
variable (K : PySem.W.Frag) (w0 : W)
def SimE (t : TE) (a : ATE) : Prop := ∀ w st σ (Q : VK) (Kc : AK), Le w0 w → RsR K w st.ρ → RE K w st.δ σ → a st Kc →
  (∀ s ρ' w' v, Kc s ρ' → Le w w' → RS K w' v s → RsR K w' ρ' → Q v w'.H) → t σ w.H Q
def SimT (t : TT) (a : ATT) : Prop := ∀ w st σ (Q : Bool → Hp → Prop) (Kc : Bool → List Res → Prop), Le w0 w → RsR K w st.ρ → RE K w st.δ σ → a st Kc →
  (∀ b ρ' w', Kc b ρ' → Le w w' → RsR K w' ρ' → Q b w'.H) → t σ w.H Q
def SimA (t : TA) (a : ATA) : Prop := ∀ w st σ (Q : List V → Hp → Prop) (Kc : List Sl → List Res → Prop), Le w0 w → RsR K w st.ρ → RE K w st.δ σ → a st Kc →
  (∀ ss ρ' w' vs, Kc ss ρ' → Le w w' → RSs K w' vs ss → RsR K w' ρ' → Q vs w'.H) → t σ w.H Q
def SimP (t : L2.TO) (a : ATO) : Prop := ∀ w st σ (Q : Option Int → Hp → Prop) (Kc : Option Int → List Res → Prop), Le w0 w → RsR K w st.ρ → RE K w st.δ σ → a st Kc →
  (∀ b ρ' w', Kc b ρ' → Le w w' → RsR K w' ρ' → Q b w'.H) → t σ w.H Q
def SimG (g : TG) (a : ATG) : Prop := ∀ w st σ v s (Q : L2.St → Hp → Prop) (Kc : ASt → Prop), Le w0 w → RsR K w st.ρ → RE K w st.δ σ → RS K w v s → a s st Kc →
  (∀ st' σ' w', Kc st' → Le w w' → RsR K w' st'.ρ → RE K w' st'.δ σ' → Q σ' w'.H) → g v σ w.H Q
structure EndsOk (w : W) (D : Ends) (A : AE) : Prop where
  nx : ∀ st' σ' w', A.nx st' → Le w w' → RsR K w' st'.ρ → RE K w' st'.δ σ' → D.nx σ' w'.H
  rt : ∀ s ρ' w' v, A.rt s ρ' → Le w w' → RsR K w' ρ' → RS K w' v s → D.rt v w'.H
  bk : ∀ st' σ' w', A.bk st' → Le w w' → RsR K w' st'.ρ → RE K w' st'.δ σ' → D.bk σ' w'.H
  ct : ∀ st' σ' w', A.ct st' → Le w w' → RsR K w' st'.ρ → RE K w' st'.δ σ' → D.ct σ' w'.H
def SimS (t : TS) (a : ATS) : Prop := ∀ w st σ D A, Le w0 w → RsR K w st.ρ → RE K w st.δ σ → a A st → EndsOk K w D A → t D σ w.H
end
theorem EndsOk.mono {K : PySem.W.Frag} {w w' : W} {D : Ends} {A : AE} (e : EndsOk K w D A) (l : Le w w') : EndsOk K w' D A :=
  ⟨fun _ _ _ h l' => e.nx _ _ _ h (l.trans l'), fun _ _ _ _ h l' => e.rt _ _ _ _ h (l.trans l'), fun _ _ _ h l' => e.bk _ _ _ h (l.trans l'), fun _ _ _ h l' => e.ct _ _ _ h (l.trans l')⟩
/-- a slot's value, as it may be used: what is fixed by now is data -/
def nrm (ρ : List Res) : Sl → Sl
  | .dat d => .dat d
  | .res k => match ρ[k]? with
    | some (.fz d) => .dat d
    | _ => .res k
theorem RS.nrm {K : PySem.W.Frag} {w : W} {ρ : List Res} (r : RsR K w ρ) {v : V} {s : Sl} (h : RS K w v s) : RS K w v (nrm ρ s) := by
  cases s with
  | dat d => exact h
  | res k =>
    unfold An.nrm
    dsimp only
    split
    · rename_i d e
      obtain ⟨a, ha, rfl⟩ := h
      exact r.at_ k a _ ha e
    · exact h
/-- what a value reads as, if it reads as data (it may change later) -/
def dOf (ρ : List Res) : Sl → Option D
  | .dat d => some d
  | .res k => (ρ[k]?).bind Res.data

/-! #### expressions -/
def aVar (i : Nat) : ATE := fun st Kc => match st.δ[i]? with
  | some (some s) => Kc (nrm st.ρ s) st.ρ
  | _ => False
def aC (d : D) : ATE := fun st Kc => Kc (.dat d) st.ρ
abbrev AOp := Sl → Sl → List Res → AK → Prop
def aOp (f : AOp) (a b : ATE) : ATE := fun st Kc => a st fun x ρ1 => b ⟨st.δ, ρ1⟩ fun y ρ2 => f (nrm ρ2 x) y ρ2 Kc
def aNil : ATA := fun st Kc => Kc [] st.ρ
def aCons (a : ATE) (r : ATA) : ATA := fun st Kc => a st fun x ρ1 => r ⟨st.δ, ρ1⟩ fun xs ρ2 => Kc (nrm ρ2 x :: xs) ρ2
@[reducible] def kTest (Kc : Bool → List Res → Prop) : AK := fun x ρ1 => match x with
  | .dat (.bl b) => Kc b ρ1
  | _ => False
def aTest (a : ATE) : ATT := fun st Kc => a st (kTest Kc)
def aAnd (a b : ATT) : ATT := fun st Kc => a st fun c ρ1 => if c = true then b ⟨st.δ, ρ1⟩ Kc else Kc false ρ1
def aOr (a b : ATT) : ATT := fun st Kc => a st fun c ρ1 => if c = true then Kc true ρ1 else b ⟨st.δ, ρ1⟩ Kc
def aNot (a : ATT) : ATT := fun st Kc => a st fun c ρ1 => Kc (!c) ρ1
def aAndV (a b : ATE) : ATE := fun st Kc => a st (kTest fun c ρ1 => if c = true then b ⟨st.δ, ρ1⟩ Kc else Kc (.dat (.bl false)) ρ1)
def aOrV (a b : ATE) : ATE := fun st Kc => a st (kTest fun c ρ1 => if c = true then Kc (.dat (.bl true)) ρ1 else b ⟨st.δ, ρ1⟩ Kc)
def aNotV (a : ATE) : ATE := fun st Kc => a st (kTest fun c ρ1 => Kc (.dat (.bl (!c))) ρ1)
def aIf (c : ATT) (a b : ATE) : ATE := fun st Kc => c st fun k ρ1 => if k = true then a ⟨st.δ, ρ1⟩ Kc else b ⟨st.δ, ρ1⟩ Kc
def aChain (f g : AOp) (a b c : ATE) : ATE := fun st Kc => a st fun x ρ1 => b ⟨st.δ, ρ1⟩ fun y ρ2 => f (nrm ρ2 x) y ρ2 (kTest fun k ρ3 => if k = true then c ⟨st.δ, ρ3⟩ fun u ρ4 => g (nrm ρ4 y) u ρ4 Kc else Kc (.dat (.bl false)) ρ3)
/-- things that are put into something are fixed from then on -/
def frz : List Res → Sl → (D → List Res → Prop) → Prop
  | ρ, .dat d, Kc => Kc d ρ
  | ρ, .res k, Kc => match (ρ[k]?).bind Res.data with
    | some d => Kc d (ρ.set k (.fz d))
    | none => False
def frzs : List Res → List Sl → (List D → List Res → Prop) → Prop
  | ρ, [], Kc => Kc [] ρ
  | ρ, s :: r, Kc => frz ρ (nrm ρ s) fun d ρ1 => frzs ρ1 r fun ds ρ2 => Kc (d :: ds) ρ2
def aTup (l : ATA) : ATE := fun st Kc => l st fun xs ρ1 => xs.length ≤ sizeLine ∧ frzs ρ1 xs fun ds ρ2 => Kc (.dat (.tup ds)) ρ2
def aLst (l : ATA) : ATE := fun st Kc => l st fun xs ρ1 => xs.length ≤ sizeLine ∧ frzs ρ1 xs fun ds ρ2 => Kc (.res ρ2.length) (ρ2 ++ [.lst ds])
def aUn (f : Sl → List Res → AK → Prop) (a : ATE) : ATE := fun st Kc => a st fun x ρ1 => f x ρ1 Kc
abbrev ACb := List Sl → List Res → AK → Prop
def aCB (f : ACb) (l : ATA) : ATE := fun st Kc => l st fun xs ρ1 => f xs ρ1 Kc
def aNoPart : ATO := fun st Kc => Kc none st.ρ
@[reducible] def kPart (Kc : Option Int → List Res → Prop) : AK := fun x ρ1 => match x with
  | .dat (.int i) => Kc (some i) ρ1
  | _ => False
def aPart (a : ATE) : ATO := fun st Kc => a st (kPart Kc)
abbrev ASl := Sl → Option Int → Option Int → List Res → AK → Prop
def aSl (f : ASl) (a : ATE) (lo hi : ATO) : ATE := fun st Kc => a st fun x ρ1 => lo ⟨st.δ, ρ1⟩ fun l ρ2 => hi ⟨st.δ, ρ2⟩ fun h ρ3 => f (nrm ρ3 x) l h ρ3 Kc
section
variable {K : PySem.W.Frag} {w0 : W}
theorem sim_var {i : Nat} : SimE K w0 (tVar i) (aVar i) := by
  intro w st σ Q Kc l r e h k
  unfold aVar at h
  split at h
  · rename_i s hs
    obtain ⟨v, h1, h2⟩ := e.at_ i s hs
    exact ⟨v, h1, k _ _ w v h (.refl w) (h2.nrm r) r⟩
  · exact h.elim
theorem sim_c {v : V} {d : D} (h : ∀ w, RV K w v d) : SimE K w0 (tC v) (aC d) := fun w st σ Q Kc l r e hk k => k _ _ w v hk (.refl w) (h w) r
/-- an operator keeps to its reading over data -/
def SimO (K : PySem.W.Frag) (r : R2) (f : AOp) : Prop := ∀ w ρ x y s u (Q : VK) (Kc : AK), RsR K w ρ → RS K w x s → RS K w y u → f s u ρ Kc →
  (∀ s' ρ' w' v, Kc s' ρ' → Le w w' → RS K w' v s' → RsR K w' ρ' → Q v w'.H) → r x y w.H Q
theorem sim_op {r : R2} {f : AOp} {ta tb : TE} {a b : ATE} (hr : SimO K r f) (ha : SimE K w0 ta a) (hb : SimE K w0 tb b) : SimE K w0 (tOp r ta tb) (aOp f a b) := by
  intro w st σ Q Kc l rr e h k
  refine ha w st σ _ _ l rr e h fun s ρ1 w1 v h1 l1 r1 q1 => ?_
  refine hb w1 ⟨st.δ, ρ1⟩ σ _ _ (l.trans l1) q1 (e.mono l1) h1 fun u ρ2 w2 y h2 l2 r2 q2 => ?_
  exact hr w2 ρ2 v y _ u _ _ q2 ((r1.mono l2).nrm q2) r2 h2 fun s' ρ' w' v' h3 l3 r3 q3 => k _ _ _ _ h3 (l1.trans (l2.trans l3)) r3 q3
theorem sim_nil : SimA K w0 tNil aNil := fun w st σ Q Kc l r e h k => k _ _ w _ h (.refl w) .nil r
theorem sim_cons {t : TE} {tr : TA} {a : ATE} {ar : ATA} (ha : SimE K w0 t a) (hr : SimA K w0 tr ar) : SimA K w0 (tCons t tr) (aCons a ar) := by
  intro w st σ Q Kc l r e h k
  refine ha w st σ _ _ l r e h fun s ρ1 w1 v h1 l1 r1 q1 => ?_
  refine hr w1 ⟨st.δ, ρ1⟩ σ _ _ (l.trans l1) q1 (e.mono l1) h1 fun ss ρ2 w2 vs h2 l2 r2 q2 => ?_
  exact k _ _ _ _ h2 (l1.trans l2) (.cons ((r1.mono l2).nrm q2) r2) q2
theorem bl_of {w : W} {v : V} {b : Bool} (r : RS K w v (.dat (.bl b))) : v = .bl b := by cases (show RV K w v (.bl b) from r); rfl
theorem int_of {w : W} {v : V} {i : Int} (r : RS K w v (.dat (.int i))) : v = .int i := by cases (show RV K w v (.int i) from r); rfl
theorem str_of {w : W} {v : V} {z : Str} (r : RS K w v (.dat (.str z))) : v = .str z := by cases (show RV K w v (.str z) from r); rfl
theorem non_of {w : W} {v : V} (r : RS K w v (.dat .non)) : v = .non := by cases (show RV K w v .non from r); rfl
theorem sim_test {t : TE} {a : ATE} (ha : SimE K w0 t a) : SimT K w0 (tTest t) (aTest a) := by
  intro w st σ Q Kc l r e h k
  refine ha w st σ _ _ l r e h fun s ρ1 w1 v h1 l1 r1 q1 => ?_
  dsimp only [kTest] at h1
  split at h1
  · exact ⟨_, bl_of r1, k _ _ _ h1 l1 q1⟩
  · exact h1.elim
theorem sim_tB {t : TE} {a : ATE} (ha : SimE K w0 t a) : SimT K w0 (tB t) (aTest a) := sim_test ha
theorem sim_and {t u : TT} {a b : ATT} (ha : SimT K w0 t a) (hb : SimT K w0 u b) : SimT K w0 (tAnd t u) (aAnd a b) := by
  intro w st σ Q Kc l r e h k
  refine ha w st σ _ _ l r e h fun c ρ1 w1 h1 l1 q1 => ?_
  split
  · rename_i hc
    rw [if_pos hc] at h1
    exact hb w1 ⟨st.δ, ρ1⟩ σ _ _ (l.trans l1) q1 (e.mono l1) h1 fun b ρ' w' h2 l2 q2 => k _ _ _ h2 (l1.trans l2) q2
  · rename_i hc
    rw [if_neg hc] at h1
    exact k _ _ _ h1 l1 q1
theorem sim_or {t u : TT} {a b : ATT} (ha : SimT K w0 t a) (hb : SimT K w0 u b) : SimT K w0 (tOr t u) (aOr a b) := by
  intro w st σ Q Kc l r e h k
  refine ha w st σ _ _ l r e h fun c ρ1 w1 h1 l1 q1 => ?_
  split
  · rename_i hc
    rw [if_pos hc] at h1
    exact k _ _ _ h1 l1 q1
  · rename_i hc
    rw [if_neg hc] at h1
    exact hb w1 ⟨st.δ, ρ1⟩ σ _ _ (l.trans l1) q1 (e.mono l1) h1 fun b ρ' w' h2 l2 q2 => k _ _ _ h2 (l1.trans l2) q2
theorem sim_not {t : TT} {a : ATT} (ha : SimT K w0 t a) : SimT K w0 (tNot t) (aNot a) := by
  intro w st σ Q Kc l r e h k
  exact ha w st σ _ _ l r e h fun c ρ1 w1 h1 l1 q1 => k _ _ _ h1 l1 q1
theorem sim_andV {t u : TE} {a b : ATE} (ha : SimE K w0 t a) (hb : SimE K w0 u b) : SimE K w0 (tAndV t u) (aAndV a b) := by
  intro w st σ Q Kc l r e h k
  refine ha w st σ _ _ l r e h fun s ρ1 w1 v h1 l1 r1 q1 => ?_
  dsimp only [kTest] at h1
  split at h1
  · refine ⟨_, bl_of r1, ?_⟩
    split
    · rename_i hc
      rw [if_pos hc] at h1
      exact hb w1 ⟨st.δ, ρ1⟩ σ _ _ (l.trans l1) q1 (e.mono l1) h1 fun b ρ' w' v' h2 l2 r2 q2 => k _ _ _ _ h2 (l1.trans l2) r2 q2
    · rename_i hc
      rw [if_neg hc] at h1
      exact k _ _ _ _ h1 l1 (show RV K w1 _ _ from .bl _) q1
  · exact h1.elim
theorem sim_orV {t u : TE} {a b : ATE} (ha : SimE K w0 t a) (hb : SimE K w0 u b) : SimE K w0 (tOrV t u) (aOrV a b) := by
  intro w st σ Q Kc l r e h k
  refine ha w st σ _ _ l r e h fun s ρ1 w1 v h1 l1 r1 q1 => ?_
  dsimp only [kTest] at h1
  split at h1
  · refine ⟨_, bl_of r1, ?_⟩
    split
    · rename_i hc
      rw [if_pos hc] at h1
      exact k _ _ _ _ h1 l1 (show RV K w1 _ _ from .bl _) q1
    · rename_i hc
      rw [if_neg hc] at h1
      exact hb w1 ⟨st.δ, ρ1⟩ σ _ _ (l.trans l1) q1 (e.mono l1) h1 fun b ρ' w' v' h2 l2 r2 q2 => k _ _ _ _ h2 (l1.trans l2) r2 q2
  · exact h1.elim
theorem sim_notV {t : TE} {a : ATE} (ha : SimE K w0 t a) : SimE K w0 (tNotV t) (aNotV a) := by
  intro w st σ Q Kc l r e h k
  refine ha w st σ _ _ l r e h fun s ρ1 w1 v h1 l1 r1 q1 => ?_
  dsimp only [kTest] at h1
  split at h1
  · exact ⟨_, bl_of r1, k _ _ _ _ h1 l1 (show RV K w1 _ _ from .bl _) q1⟩
  · exact h1.elim
theorem sim_ifE {c : TT} {t u : TE} {ac : ATT} {a b : ATE} (hc : SimT K w0 c ac) (ha : SimE K w0 t a) (hb : SimE K w0 u b) : SimE K w0 (tIf c t u) (aIf ac a b) := by
  intro w st σ Q Kc l r e h k
  refine hc w st σ _ _ l r e h fun s ρ1 w1 h1 l1 q1 => ?_
  split
  · rename_i hc
    rw [if_pos hc] at h1
    exact ha w1 ⟨st.δ, ρ1⟩ σ _ _ (l.trans l1) q1 (e.mono l1) h1 fun b ρ' w' v' h2 l2 r2 q2 => k _ _ _ _ h2 (l1.trans l2) r2 q2
  · rename_i hc
    rw [if_neg hc] at h1
    exact hb w1 ⟨st.δ, ρ1⟩ σ _ _ (l.trans l1) q1 (e.mono l1) h1 fun b ρ' w' v' h2 l2 r2 q2 => k _ _ _ _ h2 (l1.trans l2) r2 q2
theorem sim_chain {r r' : R2} {f g : AOp} {ta tb tc : TE} {a b c : ATE} (hf : SimO K r f) (hg : SimO K r' g) (ha : SimE K w0 ta a) (hb : SimE K w0 tb b) (hc : SimE K w0 tc c) : SimE K w0 (tChain r r' ta tb tc) (aChain f g a b c) := by
  intro w st σ Q Kc l rr e h k
  refine ha w st σ _ _ l rr e h fun s ρ1 w1 v h1 l1 r1 q1 => ?_
  refine hb w1 ⟨st.δ, ρ1⟩ σ _ _ (l.trans l1) q1 (e.mono l1) h1 fun u ρ2 w2 y h2 l2 r2 q2 => ?_
  refine hf w2 ρ2 v y _ u _ _ q2 ((r1.mono l2).nrm q2) r2 h2 fun s' ρ3 w3 v' h3 l3 r3 q3 => ?_
  dsimp only [kTest] at h3
  split at h3
  · refine ⟨_, bl_of r3, ?_⟩
    split
    · rename_i hc'
      rw [if_pos hc'] at h3
      refine hc w3 ⟨st.δ, ρ3⟩ σ _ _ (l.trans (l1.trans (l2.trans l3))) q3 (e.mono (l1.trans (l2.trans l3))) h3 fun u' ρ4 w4 y' h4 l4 r4 q4 => ?_
      exact hg w4 ρ4 y y' _ u' _ _ q4 ((r2.mono (l3.trans l4)).nrm q4) r4 h4 fun s' ρ' w' v' h5 l5 r5 q5 => k _ _ _ _ h5 (l1.trans (l2.trans (l3.trans (l4.trans l5)))) r5 q5
    · rename_i hc'
      rw [if_neg hc'] at h3
      exact k _ _ _ _ h3 (l1.trans (l2.trans l3)) (show RV K w3 _ _ from .bl _) q3
  · exact h3.elim
theorem sim_frz {w : W} {ρ : List Res} {v : V} {s : Sl} {Kc : D → List Res → Prop} (r : RsR K w ρ) (h : RS K w v s) (k : frz ρ s Kc) : ∃ d ρ' w', Kc d ρ' ∧ Le w w' ∧ w'.H = w.H ∧ RV K w' v d ∧ RsR K w' ρ' := by
  cases s with
  | dat d => exact ⟨d, ρ, w, k, .refl w, rfl, h, r⟩
  | res i =>
    unfold frz at k
    dsimp only at k
    split at k
    · rename_i d e
      obtain ⟨a, ha, rfl⟩ := h
      obtain ⟨x, hx, hd⟩ := Option.bind_eq_some_iff.mp e
      obtain ⟨q1, q2⟩ := r.frozen ha hx hd
      exact ⟨d, _, w.frozen a (as_mem ha), k, Le.frozen w a _, rfl, q1, q2⟩
    · exact k.elim
theorem sim_frzs : ∀ {ss : List Sl} {w : W} {ρ : List Res} {vs : List V} {Kc : List D → List Res → Prop}, RsR K w ρ → RSs K w vs ss → frzs ρ ss Kc → ∃ ds ρ' w', Kc ds ρ' ∧ Le w w' ∧ w'.H = w.H ∧ RVs K w' vs ds ∧ RsR K w' ρ'
  | [], w, ρ, _, Kc, r, h, k => by cases h; exact ⟨[], ρ, w, k, .refl w, rfl, .nil, r⟩
  | s :: ss, w, ρ, _, Kc, r, h, k => by
    cases h with
    | cons h1 h2 =>
      obtain ⟨d, ρ1, w1, k1, l1, e1, r1, q1⟩ := sim_frz r (h1.nrm r) k
      obtain ⟨ds, ρ2, w2, k2, l2, e2, r2, q2⟩ := sim_frzs q1 (h2.mono l1) k1
      exact ⟨_, ρ2, w2, k2, l1.trans l2, e2.trans e1, .cons (r1.mono l2) r2, q2⟩
theorem RSs.len {w : W} : ∀ {vs : List V} {ss : List Sl}, RSs K w vs ss → vs.length = ss.length
  | _, _, .nil => rfl
  | _, _, .cons _ t => by rw [List.length_cons, List.length_cons, RSs.len t]
/-- a new tuple -/
theorem new_tup {w : W} {p : Addr} {xs : List V} {ds : List D} (hp : w.H p = none) (h : RVs K w xs ds) : RV K (w.fixed p (.tup xs) hp) (.ref p) (.tup ds) :=
  .tup (fun H' e => .inl (.inl (by rw [e (.inr rfl)]; exact upd_same))) (h.mono (Le.fixed w p _ hp))
theorem new_lst {w : W} {p : Addr} {xs : List V} {ds : List D} (hp : w.H p = none) (h : RVs K w xs ds) : RR K (w.grown p (.lst xs) hp) p (.lst ds) :=
  ⟨(show ¬ w.G p from not_G_of hp), xs, upd_same, h.mono (Le.grown w p _ hp)⟩
theorem new_res {w : W} {p : Addr} {o : HO} {ρ : List Res} {x : Res} (hp : w.H p = none) (r : RsR K w ρ) (h : RR K (w.grown p o hp) p x) : RS K (w.grown p o hp) (.ref p) (.res ρ.length) ∧ RsR K (w.grown p o hp) (ρ ++ [x]) :=
  ⟨⟨p, by show (w.as ++ [p])[ρ.length]? = some p; rw [r.len, List.getElem?_append_right (Nat.le_refl _), Nat.sub_self]; rfl, rfl⟩, r.grown hp h⟩
theorem sim_tup {t : TA} {a : ATA} (ha : SimA K w0 t a) : SimE K w0 (tTup t) (aTup a) := by
  intro w st σ Q Kc l r e h k
  refine ha w st σ _ _ l r e h fun ss ρ1 w1 vs h1 l1 r1 q1 => ?_
  obtain ⟨ds, ρ2, w2, k2, l2, e2, r2, q2⟩ := sim_frzs q1 r1 h1.2
  refine ⟨by rw [r1.len]; exact h1.1, fun p hp => ?_⟩
  rw [← e2] at hp ⊢
  exact k _ _ (w2.fixed p _ hp) _ k2 (l1.trans (l2.trans (Le.fixed _ _ _ _))) (new_tup hp r2) (q2.fixed hp)
theorem sim_lst {t : TA} {a : ATA} (ha : SimA K w0 t a) : SimE K w0 (tLst t) (aLst a) := by
  intro w st σ Q Kc l r e h k
  refine ha w st σ _ _ l r e h fun ss ρ1 w1 vs h1 l1 r1 q1 => ?_
  obtain ⟨ds, ρ2, w2, k2, l2, e2, r2, q2⟩ := sim_frzs q1 r1 h1.2
  refine ⟨by rw [r1.len]; exact h1.1, fun p hp => ?_⟩
  rw [← e2] at hp ⊢
  obtain ⟨z1, z2⟩ := new_res hp q2 (new_lst hp r2)
  exact k _ _ (w2.grown p _ hp) _ k2 (l1.trans (l2.trans (Le.grown _ _ _ _))) z1 z2
def SimU (K : PySem.W.Frag) (r : V → Hp → VK → Prop) (f : Sl → List Res → AK → Prop) : Prop := ∀ w ρ x s (Q : VK) (Kc : AK), RsR K w ρ → RS K w x s → f s ρ Kc →
  (∀ s' ρ' w' v, Kc s' ρ' → Le w w' → RS K w' v s' → RsR K w' ρ' → Q v w'.H) → r x w.H Q
theorem sim_un {r : V → Hp → VK → Prop} {f : Sl → List Res → AK → Prop} {t : TE} {a : ATE} (hr : SimU K r f) (ha : SimE K w0 t a) : SimE K w0 (tUn r t) (aUn f a) := by
  intro w st σ Q Kc l rr e h k
  refine ha w st σ _ _ l rr e h fun s ρ1 w1 v h1 l1 r1 q1 => ?_
  exact hr w1 ρ1 v s _ _ q1 r1 h1 fun s' ρ' w' v' h2 l2 r2 q2 => k _ _ _ _ h2 (l1.trans l2) r2 q2
def SimC (K : PySem.W.Frag) (r : List V → Hp → VK → Prop) (f : ACb) : Prop := ∀ w ρ xs ss (Q : VK) (Kc : AK), RsR K w ρ → RSs K w xs ss → f ss ρ Kc →
  (∀ s' ρ' w' v, Kc s' ρ' → Le w w' → RS K w' v s' → RsR K w' ρ' → Q v w'.H) → r xs w.H Q
theorem sim_cb {r : List V → Hp → VK → Prop} {f : ACb} {t : TA} {a : ATA} (hr : SimC K r f) (ha : SimA K w0 t a) : SimE K w0 (tCB r t) (aCB f a) := by
  intro w st σ Q Kc l rr e h k
  refine ha w st σ _ _ l rr e h fun s ρ1 w1 v h1 l1 r1 q1 => ?_
  exact hr w1 ρ1 v s _ _ q1 r1 h1 fun s' ρ' w' v' h2 l2 r2 q2 => k _ _ _ _ h2 (l1.trans l2) r2 q2
theorem sim_noPart : SimP K w0 tNoPart aNoPart := fun w st σ Q Kc l r e h k => k _ _ w h (.refl w) r
theorem sim_part {t : TE} {a : ATE} (ha : SimE K w0 t a) : SimP K w0 (tPart t) (aPart a) := by
  intro w st σ Q Kc l r e h k
  refine ha w st σ _ _ l r e h fun s ρ1 w1 v h1 l1 r1 q1 => ?_
  dsimp only [kPart] at h1
  split at h1
  · exact ⟨_, int_of r1, k _ _ _ h1 l1 q1⟩
  · exact h1.elim
def SimL (K : PySem.W.Frag) (r : V → Option Int → Option Int → Hp → VK → Prop) (f : ASl) : Prop := ∀ w ρ x s lo hi (Q : VK) (Kc : AK), RsR K w ρ → RS K w x s → f s lo hi ρ Kc →
  (∀ s' ρ' w' v, Kc s' ρ' → Le w w' → RS K w' v s' → RsR K w' ρ' → Q v w'.H) → r x lo hi w.H Q
theorem sim_sl {r : V → Option Int → Option Int → Hp → VK → Prop} {f : ASl} {t : TE} {tl th : L2.TO} {a : ATE} {al ah : ATO} (hr : SimL K r f) (ha : SimE K w0 t a) (hl : SimP K w0 tl al) (hh : SimP K w0 th ah) : SimE K w0 (tSl r t tl th) (aSl f a al ah) := by
  intro w st σ Q Kc l rr e h k
  refine ha w st σ _ _ l rr e h fun s ρ1 w1 v h1 l1 r1 q1 => ?_
  refine hl w1 ⟨st.δ, ρ1⟩ σ _ _ (l.trans l1) q1 (e.mono l1) h1 fun lo ρ2 w2 h2 l2 q2 => ?_
  refine hh w2 ⟨st.δ, ρ2⟩ σ _ _ (l.trans (l1.trans l2)) q2 (e.mono (l1.trans l2)) h2 fun hi ρ3 w3 h3 l3 q3 => ?_
  exact hr w3 ρ3 v _ lo hi _ _ q3 ((r1.mono (l2.trans l3)).nrm q3) h3 fun s' ρ' w' v' h4 l4 r4 q4 => k _ _ _ _ h4 (l1.trans (l2.trans (l3.trans l4))) r4 q4
/-! #### statements -/
def aSeq (a b : ATS) : ATS := fun A st => a { A with nx := fun st' => b A st' } st
def aNext : ATS := fun A st => A.nx st
def aAsg (a : ATE) (g : ATG) : ATS := fun A st => a st fun s ρ1 => g s ⟨st.δ, ρ1⟩ A.nx
def aName (i : Nat) : ATG := fun s st Kc => Kc ⟨st.δ.set i (some s), st.ρ⟩
def aDrop (a : ATE) : ATS := fun A st => a st fun _ ρ1 => A.nx ⟨st.δ, ρ1⟩
def aRet (a : ATE) : ATS := fun A st => a st A.rt
def aRetN : ATS := fun A st => A.rt (.dat .non) st.ρ
def aBreak : ATS := fun A st => A.bk st
def aCont : ATS := fun A st => A.ct st
def aNever : ATS := fun _ _ => False
def aIfS (c : ATT) (a b : ATS) : ATS := fun A st => c st fun k ρ1 => if k = true then a A ⟨st.δ, ρ1⟩ else b A ⟨st.δ, ρ1⟩
theorem sim_seq {t u : TS} {a b : ATS} (ha : SimS K w0 t a) (hb : SimS K w0 u b) : SimS K w0 (tSeq t u) (aSeq a b) := by
  intro w st σ D A l r e h k
  exact ha w st σ _ _ l r e h ⟨fun st' σ' w' h1 l1 r1 e1 => hb w' st' σ' D A (l.trans l1) r1 e1 h1 (k.mono l1), k.rt, k.bk, k.ct⟩
theorem sim_next : SimS K w0 tNext aNext := fun w st σ D A l r e h k => k.nx _ _ _ h (.refl w) r e
theorem sim_break : SimS K w0 tBreak aBreak := fun w st σ D A l r e h k => k.bk _ _ _ h (.refl w) r e
theorem sim_cont : SimS K w0 tCont aCont := fun w st σ D A l r e h k => k.ct _ _ _ h (.refl w) r e
theorem sim_never : SimS K w0 tNever aNever := fun w st σ D A l r e h k => h.elim
theorem sim_asg {t : TE} {g : TG} {a : ATE} {ag : ATG} (ha : SimE K w0 t a) (hg : SimG K w0 g ag) : SimS K w0 (tAsg t g) (aAsg a ag) := by
  intro w st σ D A l r e h k
  refine ha w st σ _ _ l r e h fun s ρ1 w1 v h1 l1 r1 q1 => ?_
  exact hg w1 ⟨st.δ, ρ1⟩ σ v s _ _ (l.trans l1) q1 (e.mono l1) r1 h1 fun st' σ' w' h2 l2 r2 e2 => k.nx _ _ _ h2 (l1.trans l2) r2 e2
theorem sim_name {i : Nat} : SimG K w0 (gName i) (aName i) := fun w st σ v s Q Kc l r e h hk k => k _ _ w hk (.refl w) r (e.set h i)
theorem sim_drop {t : TE} {a : ATE} (ha : SimE K w0 t a) : SimS K w0 (tDrop t) (aDrop a) := by
  intro w st σ D A l r e h k
  exact ha w st σ _ _ l r e h fun s ρ1 w1 v h1 l1 r1 q1 => k.nx _ _ _ h1 l1 q1 (e.mono l1)
theorem sim_ret {t : TE} {a : ATE} (ha : SimE K w0 t a) : SimS K w0 (tRet t) (aRet a) := by
  intro w st σ D A l r e h k
  exact ha w st σ _ _ l r e h fun s ρ1 w1 v h1 l1 r1 q1 => k.rt _ _ _ _ h1 l1 q1 r1
theorem sim_retN : SimS K w0 tRetN aRetN := fun w st σ D A l r e h k => k.rt _ _ w _ h (.refl w) r (show RV K w _ _ from .non)
theorem sim_ifS {c : TT} {t u : TS} {ac : ATT} {a b : ATS} (hc : SimT K w0 c ac) (ha : SimS K w0 t a) (hb : SimS K w0 u b) : SimS K w0 (tIfS c t u) (aIfS ac a b) := by
  intro w st σ D A l r e h k
  refine hc w st σ _ _ l r e h fun s ρ1 w1 h1 l1 q1 => ?_
  split
  · rename_i hc
    rw [if_pos hc] at h1
    exact ha w1 ⟨st.δ, ρ1⟩ σ _ _ (l.trans l1) q1 (e.mono l1) h1 (k.mono l1)
  · rename_i hc
    rw [if_neg hc] at h1
    exact hb w1 ⟨st.δ, ρ1⟩ σ _ _ (l.trans l1) q1 (e.mono l1) h1 (k.mono l1)
end
end An

set_option Elab.async false
set_option linter.all false
set_option maxRecDepth 100000
namespace An
open PySem PySem.Spec PyProof.Rows L2 Ov
/-! #### defs: their promises over data -/
inductive Ag where
  | dat (d : D)
  | res (r : Res)
/-- a promise over data: the arguments, what is wanted of the answer and of what changed (in the order of the arguments), of an error -/
abbrev AF := List Ag → (Ag → List Res → Prop) → XA → Prop
inductive ArgsR (K : PySem.W.Frag) (w : W) : List Addr → List V → List Ag → Prop
  | nil : ArgsR K w [] [] []
  | dat {as : List Addr} {v : V} {d : D} {vs : List V} {ags : List Ag} : RV K w v d → ArgsR K w as vs ags → ArgsR K w as (v :: vs) (.dat d :: ags)
  | res {as : List Addr} {a : Addr} {r : Res} {vs : List V} {ags : List Ag} : RR K w a r → ArgsR K w as vs ags → ArgsR K w (a :: as) (.ref a :: vs) (.res r :: ags)
def OutR (K : PySem.W.Frag) (w0 w : W) (v : V) : Ag → Prop
  | .dat d => RV K w v d
  | .res r => ∃ a, v = .ref a ∧ a ∈ w.as ∧ a ∉ w0.as ∧ RR K w a r
structure IoR (K : PySem.W.Frag) (w0 w : W) (ρ : List Res) : Prop where
  len : ρ.length = w0.as.length
  at_ : ∀ (k : Nat) (a : Addr) (r : Res), w0.as[k]? = some a → ρ[k]? = some r → RR K w a r
/-- an error -/
def XOk (K : PySem.W.Frag) (w0 : W) (E : XK) (X : XA) : Prop := ∀ c f d ρ w dd v, X c f d ρ → Le w0 w → RsR K w ρ → w.H dd = some (.xd [(f, v)]) → RV K w v d → E (.ref c) (some dd) w.H
def Conc (K : PySem.W.Frag) (F : AF) : Sp := fun vs H Q E => ∃ (w : W) (ags : List Ag) (R : Ag → List Res → Prop) (X : XA), w.H = H ∧ ArgsR K w w.as vs ags ∧ F ags R X ∧
  (∀ out ρ' w' v, R out ρ' → Le w w' → IoR K w w' ρ' → OutR K w w' v out → Q v w'.H) ∧
  ∀ c f d ρ' w' dd v, X c f d ρ' → Le w w' → IoR K w w' ρ' → w'.H dd = some (.xd [(f, v)]) → RV K w' v d → E (.ref c) (some dd) w'.H
/-! the state at the start of a def -/
def agS : Nat → List Ag → List (Option Sl) × List Res
  | _, [] => ([], [])
  | k, .dat d :: r => let (a, b) := agS k r; (some (.dat d) :: a, b)
  | k, .res x :: r => let (a, b) := agS (k + 1) r; (some (.res k) :: a, x :: b)
def aStart (n : Nat) (ags : List Ag) : ASt := ⟨(agS 0 ags).1 ++ List.replicate (n - ags.length) none, (agS 0 ags).2⟩
def aEnds (n : Nat) (R : Ag → List Res → Prop) : AE where
  nx := fun st => R (.dat .non) (st.ρ.take n)
  rt := fun s ρ => match s with
    | .dat d => R (.dat d) (ρ.take n)
    | .res k => n ≤ k ∧ ∃ r, ρ[k]? = some r ∧ R (.res r) (ρ.take n)
section
variable {K : PySem.W.Frag} {w0 : W}
theorem ArgsR.len {w : W} : ∀ {as : List Addr} {vs : List V} {ags : List Ag}, ArgsR K w as vs ags → vs.length = ags.length
  | _, _, _, .nil => rfl
  | _, _, _, .dat _ t => by rw [List.length_cons, List.length_cons, ArgsR.len t]
  | _, _, _, .res _ t => by rw [List.length_cons, List.length_cons, ArgsR.len t]
theorem agS_len : ∀ (k : Nat) (ags : List Ag), (agS k ags).1.length = ags.length
  | _, [] => rfl
  | k, .dat d :: r => by show ((agS k r).1.length + 1) = _; rw [agS_len k r]; rfl
  | k, .res x :: r => by show ((agS (k + 1) r).1.length + 1) = _; rw [agS_len (k + 1) r]; rfl
theorem agS_ok {w : W} : ∀ {bs : List Addr} {vs : List V} {ags : List Ag} {k : Nat}, ArgsR K w bs vs ags → (∃ pr, w.as = pr ++ bs ∧ pr.length = k) →
    ((agS k ags).2.length = bs.length ∧ ∀ (j : Nat) (a : Addr) (r : Res), bs[j]? = some a → (agS k ags).2[j]? = some r → RR K w a r) ∧
    ∀ (i : Nat) (s : Sl), (agS k ags).1[i]? = some (some s) → ∃ v, vs[i]? = some v ∧ RS K w v s
  | _, _, _, k, .nil, _ => ⟨⟨rfl, fun j a r h _ => by cases h⟩, fun i s h => by cases h⟩
  | bs, v :: vs, .dat d :: ags, k, .dat h t, hp => by
    obtain ⟨h1, h2⟩ := agS_ok (k := k) t hp
    refine ⟨h1, fun i s e => ?_⟩
    cases i with
    | zero => cases e; exact ⟨v, rfl, h⟩
    | succ i => exact h2 i s e
  | a :: bs, _ :: vs, .res x :: ags, k, .res h t, hp => by
    obtain ⟨pr, e1, e2⟩ := hp
    obtain ⟨⟨h0, h1⟩, h2⟩ := agS_ok (k := k + 1) t ⟨pr ++ [a], by rw [e1, List.append_assoc]; rfl, by rw [List.length_append, e2]; rfl⟩
    refine ⟨⟨by show (agS (k + 1) ags).2.length + 1 = _; rw [h0]; rfl, fun j b r e z => ?_⟩, fun i s e => ?_⟩
    · cases j with
      | zero => cases e; cases z; exact h
      | succ j => exact h1 j b r e z
    · cases i with
      | zero =>
        cases e
        exact ⟨.ref a, rfl, a, by rw [e1, ← e2, List.getElem?_append_right (Nat.le_refl _), Nat.sub_self]; rfl, rfl⟩
      | succ i => exact h2 i s e
theorem start_len {N : List Str} {vs : List V} : (L2.start N vs).length = vs.length + (N.length - vs.length) := by
  unfold L2.start
  rw [List.length_append, List.length_map, List.length_replicate]
theorem fn_ok {F : AF} {N : List Str} {t : TS} {a : XA → ATS} {vs : List V} {H : Hp} {Q : VK} {E : XK} (S : ∀ w0 X, XOk K w0 E X → SimS K w0 t (a X))
    (A : ∀ ags R X, F ags R X → a (fun c f d ρ => X c f d (ρ.take (agS 0 ags).2.length)) (aEnds (agS 0 ags).2.length R) (aStart N.length ags)) (h : Conc K F vs H Q E) : t { nx := fun _ H' => Q .non H', rt := Q } (L2.start N vs) H := by
  obtain ⟨w, ags, R, X, rfl, ha, f, k, kx⟩ := h
  obtain ⟨⟨h0, h1⟩, h2⟩ := agS_ok (k := 0) ha ⟨[], rfl, rfl⟩
  have hl : (agS 0 ags).1.length = vs.length := by rw [agS_len, ha.len]
  have io : ∀ {w' : W} {ρ' : List Res}, Le w w' → RsR K w' ρ' → IoR K w w' (ρ'.take (agS 0 ags).2.length) := fun {w' ρ'} l r => by
    obtain ⟨m, e⟩ := l.pre
    refine ⟨by rw [List.length_take, h0, r.len, e, List.length_append]; omega, fun j b x e1 e2 => ?_⟩
    have hj := (List.getElem?_eq_some_iff.mp e1).1
    rw [List.getElem?_take_of_lt (by rw [h0]; exact hj)] at e2
    exact r.at_ j b x (by rw [e, List.getElem?_append_left hj]; exact e1) e2
  refine S w _ (fun c fn d ρ w' dd v hx l r hd hv => kx c fn d _ w' dd v hx l (io l r) hd hv) w (aStart N.length ags) (L2.start N vs) _ _ (.refl w) ⟨h0, h1⟩ ⟨by
      show (L2.start N vs).length = ((agS 0 ags).1 ++ _).length
      rw [start_len, List.length_append, List.length_replicate, hl, ha.len], fun i s e => ?_⟩ (A ags R X f) ⟨fun st' σ' w' h l r e => ?_, fun s ρ' w' v h l r e => ?_, fun _ _ _ h => h.elim, fun _ _ _ h => h.elim⟩
  · have e' : ((agS 0 ags).1 ++ List.replicate (N.length - ags.length) none)[i]? = some (some s) := e
    by_cases hi : i < (agS 0 ags).1.length
    · rw [List.getElem?_append_left hi] at e'
      obtain ⟨v, e1, e2⟩ := h2 i s e'
      refine ⟨v, ?_, e2⟩
      unfold L2.start
      rw [List.getElem?_append_left (by rw [List.length_map, ← hl]; exact hi), List.getElem?_map, e1]
      rfl
    · rw [List.getElem?_append_right (by omega)] at e'
      have := List.mem_of_getElem? e'
      rw [List.mem_replicate] at this
      cases this.2
  · exact k _ _ w' _ h l (io l r) (show RV K w' _ _ from .non)
  · dsimp only [aEnds] at h
    split at h
    · exact k _ _ w' _ h l (io l r) e
    · obtain ⟨hk, x, hx, hR⟩ := h
      obtain ⟨b, hb, rfl⟩ := e
      refine k _ _ w' _ hR l (io l r) ⟨b, rfl, as_mem hb, fun z => ?_, r.at_ _ b x hb hx⟩
      obtain ⟨j, hj⟩ := List.mem_iff_getElem?.mp z
      obtain ⟨m, em⟩ := l.pre
      have hjl := (List.getElem?_eq_some_iff.mp hj).1
      have hj' : w'.as[j]? = some b := by rw [em, List.getElem?_append_left hjl]; exact hj
      have := as_inj hb hj'
      omega
/-! #### calls -/
/-- which arguments are passed as things that change -/
def pick : List Res → List Sl → List (Ag × Option Nat) → List Res → Prop
  | ρ, [], l, ρ' => l = [] ∧ ρ' = ρ
  | ρ, _ :: _, _, _ => False
/-- the arguments of a call: data, or things that change (their numbers) -/
def args : List Bool → List Res → List Sl → (List Ag → List Nat → List Res → Prop) → Prop
  | _, ρ, [], Kc => Kc [] [] ρ
  | [], ρ, s :: r, Kc => frz ρ (nrm ρ s) fun d ρ1 => args [] ρ1 r fun ags ks ρ2 => Kc (.dat d :: ags) ks ρ2
  | false :: b, ρ, s :: r, Kc => frz ρ (nrm ρ s) fun d ρ1 => args b ρ1 r fun ags ks ρ2 => Kc (.dat d :: ags) ks ρ2
  | true :: b, ρ, s :: r, Kc => match nrm ρ s with
    | .dat d => args b ρ r fun ags ks ρ2 => Kc (.dat d :: ags) ks ρ2
    | .res k => args b ρ r fun ags ks ρ2 => k ∉ ks ∧ match ρ2[k]? with
      | some x => Kc (.res x :: ags) (k :: ks) ρ2
      | none => False
def setAll : List Res → List Nat → List Res → List Res
  | ρ, k :: ks, x :: xs => setAll (ρ.set k x) ks xs
  | ρ, _, _ => ρ
/-- what a call leaves -/
def aDone (ks : List Nat) (ρ : List Res) (Kc : AK) : Ag → List Res → Prop
  | .dat d, ρio => Kc (.dat d) (setAll ρ ks ρio)
  | .res r, ρio => Kc (.res ρ.length) (setAll ρ ks ρio ++ [r])
def aFn (b : List Bool) (F : AF) (X : XA) : ACb := fun ss ρ Kc => args b ρ ss fun ags ks ρ1 => F ags (aDone ks ρ1 Kc) fun c f d ρio => X c f d (setAll ρ1 ks ρio)
theorem setAll_len : ∀ (ks : List Nat) (ρ xs : List Res), (setAll ρ ks xs).length = ρ.length
  | [], ρ, [] => rfl
  | [], ρ, _ :: _ => rfl
  | k :: ks, ρ, [] => rfl
  | k :: ks, ρ, x :: xs => by show (setAll (ρ.set k x) ks xs).length = _; rw [setAll_len ks, List.length_set]
theorem setAll_out : ∀ (ks : List Nat) (ρ xs : List Res) (j : Nat), j ∉ ks → (setAll ρ ks xs)[j]? = ρ[j]?
  | [], ρ, [], j, h => rfl
  | [], ρ, _ :: _, j, h => rfl
  | k :: ks, ρ, [], j, h => rfl
  | k :: ks, ρ, x :: xs, j, h => by
    show (setAll (ρ.set k x) ks xs)[j]? = _
    rw [setAll_out ks _ xs j fun z => h (List.mem_cons_of_mem _ z), List.getElem?_set_ne fun z => h (by rw [z]; exact List.mem_cons_self)]
theorem setAll_in : ∀ (ks : List Nat) (ρ xs : List Res) (i j : Nat), ks.Nodup → ks[i]? = some j → j < ρ.length → ks.length = xs.length → (setAll ρ ks xs)[j]? = xs[i]?
  | [], ρ, xs, i, j, _, h, _, _ => by cases h
  | k :: ks, ρ, [], i, j, _, h, _, e => by cases e
  | k :: ks, ρ, x :: xs, 0, j, nd, h, hj, e => by
    cases h
    show (setAll (ρ.set k x) ks xs)[k]? = _
    rw [setAll_out ks _ xs k (List.nodup_cons.mp nd).1, List.getElem?_set, if_pos rfl, if_pos hj]
    rfl
  | k :: ks, ρ, x :: xs, i + 1, j, nd, h, hj, e => by
    show (setAll (ρ.set k x) ks xs)[j]? = _
    rw [setAll_in ks _ xs i j (List.nodup_cons.mp nd).2 h (by rw [List.length_set]; exact hj) (by simpa using e)]
    rfl
/-- the arguments as they are found -/
theorem sim_args : ∀ {ss : List Sl} {b : List Bool} {w : W} {ρ : List Res} {vs : List V} {Kc : List Ag → List Nat → List Res → Prop}, RsR K w ρ → RSs K w vs ss → args b ρ ss Kc →
    ∃ ags ks ρ' w' bs, Kc ags ks ρ' ∧ Le w w' ∧ w'.H = w.H ∧ w'.as = w.as ∧ RsR K w' ρ' ∧ ks.Nodup ∧ bs.length = ks.length ∧ (∀ (i k : Nat) (a : Addr), ks[i]? = some k → bs[i]? = some a → w'.as[k]? = some a ∧ k < ρ'.length) ∧ ArgsR K w' bs vs ags
  | [], b, w, ρ, _, Kc, r, h, k => by
    cases h
    refine ⟨[], [], ρ, w, [], ?_, .refl w, rfl, rfl, r, List.nodup_nil, rfl, (fun i k a e => by cases e), .nil⟩
    unfold args at k
    exact k
  | s :: ss, b, w, ρ, _, Kc, r, h, k => by
    cases h with
    | @cons v _ vs _ h1 h2 =>
      have fr : ∀ (b : List Bool), (frz ρ (nrm ρ s) fun d ρ1 => args b ρ1 ss fun ags ks ρ2 => Kc (.dat d :: ags) ks ρ2) → ∃ ags ks ρ' w' bs, Kc ags ks ρ' ∧ Le w w' ∧ w'.H = w.H ∧ w'.as = w.as ∧ RsR K w' ρ' ∧ ks.Nodup ∧ bs.length = ks.length ∧ (∀ (i k : Nat) (a : Addr), ks[i]? = some k → bs[i]? = some a → w'.as[k]? = some a ∧ k < ρ'.length) ∧ ArgsR K w' bs (v :: vs) ags := by
        intro b k
        have as1 : ∀ {ρ : List Res} {s : Sl} {Kc : D → List Res → Prop}, RsR K w ρ → RS K w v s → frz ρ s Kc → ∃ d ρ' w', Kc d ρ' ∧ Le w w' ∧ w'.H = w.H ∧ w'.as = w.as ∧ RV K w' v d ∧ RsR K w' ρ' := by
          intro ρ s Kc r h k
          cases s with
          | dat d => exact ⟨d, ρ, w, k, .refl w, rfl, rfl, h, r⟩
          | res i =>
            unfold frz at k
            dsimp only at k
            split at k
            · rename_i d e
              obtain ⟨a, ha, rfl⟩ := h
              obtain ⟨x, hx, hd⟩ := Option.bind_eq_some_iff.mp e
              obtain ⟨q1, q2⟩ := r.frozen ha hx hd
              exact ⟨d, _, w.frozen a (as_mem ha), k, Le.frozen w a _, rfl, rfl, q1, q2⟩
            · exact k.elim
        obtain ⟨d, ρ1, w1, k1, l1, e1, a1, r1, q1⟩ := as1 r (h1.nrm r) k
        obtain ⟨ags, ks, ρ2, w2, bs, k2, l2, e2, a2, q2, nd, bl, hb, ar⟩ := sim_args q1 (h2.mono l1) k1
        exact ⟨_, ks, ρ2, w2, bs, k2, l1.trans l2, e2.trans e1, a2.trans a1, q2, nd, bl, hb, .dat (r1.mono l2) ar⟩
      cases b with
      | nil => exact fr [] k
      | cons c b =>
        cases c with
        | false => exact fr b k
        | true =>
          have h1' := h1.nrm r
          unfold args at k
          revert h1' k
          generalize nrm ρ s = s'
          intro h1' k
          cases s' with
          | dat d =>
            obtain ⟨ags, ks, ρ2, w2, bs, k2, l2, e2, a2, q2, nd, bl, hb, ar⟩ := sim_args r h2 k
            exact ⟨_, ks, ρ2, w2, bs, k2, l2, e2, a2, q2, nd, bl, hb, .dat (RV.mono l2 h1') ar⟩
          | res j =>
            obtain ⟨ags, ks, ρ2, w2, bs, k2, l2, e2, a2, q2, nd, bl, hb, ar⟩ := sim_args r h2 k
            obtain ⟨hn, k3⟩ := k2
            split at k3
            · rename_i x hx
              obtain ⟨a, ha, rfl⟩ := h1'
              have ha2 : w2.as[j]? = some a := by rw [a2]; exact ha
              refine ⟨_, j :: ks, ρ2, w2, a :: bs, k3, l2, e2, a2, q2, List.nodup_cons.mpr ⟨hn, nd⟩, by rw [List.length_cons, List.length_cons, bl], fun i k' b' e1 e2 => ?_, .res (q2.at_ j a x ha2 hx) ar⟩
              cases i with
              | zero => cases e1; cases e2; exact ⟨ha2, (List.getElem?_eq_some_iff.mp hx).1⟩
              | succ i => exact hb i k' b' e1 e2
            · exact k3.elim

theorem RR.same {w w' : W} (eH : w'.H = w.H) (eG : w'.G = w.G) {a : Addr} {r : Res} (h : RR K w a r) : RR K w' a r := by
  have kG : ∀ b, w.G b → w'.H b = w.H b := fun b _ => by rw [eH]
  have g1 : ∀ b, w.G b → w'.G b := fun b h => by rw [eG]; exact h
  cases r with
  | lst ds => obtain ⟨n, xs, h1, h2⟩ := h; exact ⟨by rw [eG]; exact n, xs, by rw [eH]; exact h1, h2.monoG kG g1⟩
  | dic ds => obtain ⟨n, xs, h1, h2⟩ := h; exact ⟨by rw [eG]; exact n, xs, by rw [eH]; exact h1, h2.monoG kG g1⟩
  | ins C ds => obtain ⟨n, dx, xs, h1, h2⟩ := h; exact ⟨by rw [eG]; exact n, dx, xs, by rw [eH]; exact h1, h2.monoG kG g1⟩
  | pool =>
    obtain ⟨n, q, cs, x, y, z, u, h1, h2, ne, gl, b⟩ := h
    exact ⟨by rw [eG]; exact n, q, cs, x, y, z, u, by rw [eH]; exact h1, by rw [eH]; exact h2, ne, g1 _ gl, b⟩
  | fz d => exact RV.monoG kG g1 h
theorem ArgsR.same {w w' : W} (eH : w'.H = w.H) (eG : w'.G = w.G) : ∀ {as : List Addr} {vs : List V} {ags : List Ag}, ArgsR K w as vs ags → ArgsR K w' as vs ags
  | _, _, _, .nil => .nil
  | _, _, _, .dat h t => .dat (RV.monoG (fun b _ => by rw [eH]) (fun b h => by rw [eG]; exact h) h) (ArgsR.same eH eG t)
  | _, _, _, .res h t => .res (h.same eH eG) (ArgsR.same eH eG t)
/-- the callee's world -/
def W.into (w : W) (bs : List Addr) (nd : bs.Nodup) (hb : ∀ a ∈ bs, a ∈ w.as) : W := ⟨w.G, bs, w.H, nd, w.live, fun a h => w.alive a (hb a h)⟩
/-- back in the caller's world -/
def W.back (w w2 : W) (ex : List Addr) (nd : (w.as ++ ex).Nodup) (al : ∀ a ∈ w.as ++ ex, ∃ o, w2.H a = some o) : W := ⟨w2.G, w.as ++ ex, w2.H, nd, w2.live, al⟩
theorem Le.back {w w2 : W} {bs ex : List Addr} {nd : bs.Nodup} {hb : ∀ a ∈ bs, a ∈ w.as} (l : Le (w.into bs nd hb) w2) (nd2 : (w.as ++ ex).Nodup) (al : ∀ a ∈ w.as ++ ex, ∃ o, w2.H a = some o) (he : ∀ a ∈ ex, w.H a = none) : Le w (w.back w2 ex nd2 al) := by
  refine ⟨fun a h => l.kG a h, fun a o h na => l.k a o h fun z => na (hb a z), fun a o h => l.al a o h, fun a h => l.g1 a h, fun a h => ?_, fun a h => ?_, ex, rfl⟩
  · rcases l.g2 a h with z | z | z
    · exact .inl z
    · exact .inr (.inl z)
    · exact .inr (.inr (hb a z))
  · rcases List.mem_append.mp h with z | z
    · exact .inl z
    · exact .inr (he a z)
theorem RsR.back {w w2 : W} {bs ex : List Addr} {ks : List Nat} {ρ ρio : List Res} {nd : bs.Nodup} {hb : ∀ a ∈ bs, a ∈ w.as} (l : Le (w.into bs nd hb) w2) (nd2 : (w.as ++ ex).Nodup) (al : ∀ a ∈ w.as ++ ex, ∃ o, w2.H a = some o) (he : ∀ a ∈ ex, w.H a = none)
    (r : RsR K w ρ) (bl : bs.length = ks.length) (kn : ks.Nodup) (hk : ∀ (i k : Nat) (a : Addr), ks[i]? = some k → bs[i]? = some a → w.as[k]? = some a ∧ k < ρ.length) (io : IoR K (w.into bs nd hb) w2 ρio) {xr : List Res} (hxl : xr.length = ex.length)
    (hx : ∀ (i : Nat) (a : Addr) (x : Res), ex[i]? = some a → xr[i]? = some x → RR K w2 a x) : RsR K (w.back w2 ex nd2 al) (setAll ρ ks ρio ++ xr) := by
  have L := Le.back l nd2 al he
  refine ⟨by show _ = (w.as ++ ex).length; rw [List.length_append, List.length_append, setAll_len, r.len, hxl], fun k a x h1 h2 => ?_⟩
  have h1' : (w.as ++ ex)[k]? = some a := h1
  by_cases hkl : k < w.as.length
  · rw [List.getElem?_append_left hkl] at h1'
    rw [List.getElem?_append_left (by rw [setAll_len, r.len]; exact hkl)] at h2
    by_cases hm : k ∈ ks
    · obtain ⟨i, hi⟩ := List.mem_iff_getElem?.mp hm
      have hil : i < bs.length := by rw [bl]; exact (List.getElem?_eq_some_iff.mp hi).1
      have hbi := List.getElem?_eq_getElem hil
      obtain ⟨e1, _⟩ := hk i k _ hi hbi
      rw [h1'] at e1
      cases e1
      rw [setAll_in ks ρ ρio i k kn hi (by rw [r.len]; exact hkl) (by rw [io.len]; exact bl.symm)] at h2
      exact (io.at_ i _ x hbi h2).same (w := w2) (w' := w.back w2 ex nd2 al) rfl rfl
    · rw [setAll_out ks ρ ρio k hm] at h2
      have nb : a ∉ bs := fun z => by
        obtain ⟨i, hi⟩ := List.mem_iff_getElem?.mp z
        have hil : i < ks.length := by rw [← bl]; exact (List.getElem?_eq_some_iff.mp hi).1
        obtain ⟨e1, _⟩ := hk i _ a (List.getElem?_eq_getElem hil) hi
        have := as_inj h1' e1
        subst this
        exact hm (List.getElem_mem hil)
      obtain ⟨o, ho⟩ := w.alive a (as_mem h1')
      refine (r.at_ k a x h1' h2).stay L ?_ fun g => ?_
      · show w2.H a = w.H a
        rw [l.k a o ho nb, ho]
      · rcases l.g2 a g with z | z | z
        · exact z
        · have z' : w.H a = none := z
          rw [ho] at z'; cases z'
        · exact absurd z nb
  · rw [List.getElem?_append_right (by omega)] at h1'
    rw [List.getElem?_append_right (by rw [setAll_len, r.len]; omega), setAll_len, r.len] at h2
    exact (hx _ a x h1' h2).same (w := w2) (w' := w.back w2 ex nd2 al) rfl rfl
/-- a call -/
theorem call_ok {F : AF} {b : List Bool} {ss : List Sl} {w : W} {ρ : List Res} {vs : List V} {Kc : AK} {Q : VK} {E : XK} {X : XA} (l0 : Le w0 w) (hX : XOk K w0 E X) (r : RsR K w ρ) (h : RSs K w vs ss) (f : aFn b F X ss ρ Kc)
    (k : ∀ s ρ' w' v, Kc s ρ' → Le w w' → RS K w' v s → RsR K w' ρ' → Q v w'.H) : Conc K F vs w.H Q E := by
  obtain ⟨ags, ks, ρ1, w1, bs, f1, l1, e1, as1, r1, kn, bl, hk, ar⟩ := sim_args r h f
  have hb : ∀ a ∈ bs, a ∈ w1.as := fun a z => by
    obtain ⟨i, hi⟩ := List.mem_iff_getElem?.mp z
    have hil : i < ks.length := by rw [← bl]; exact (List.getElem?_eq_some_iff.mp hi).1
    exact as_mem (hk i _ a (List.getElem?_eq_getElem hil) hi).1
  have nd : bs.Nodup := List.pairwise_iff_getElem.mpr fun i j hi hj hij z => by
    have a1 := (hk i _ _ (List.getElem?_eq_getElem (by omega)) (List.getElem?_eq_getElem hi)).1
    have a2 := (hk j _ _ (List.getElem?_eq_getElem (by omega)) (List.getElem?_eq_getElem hj)).1
    rw [z] at a1
    have e := as_inj a1 a2
    exact List.pairwise_iff_getElem.mp kn i j (by omega) (by omega) hij e
  refine ⟨w1.into bs nd hb, ags, aDone ks ρ1 Kc, fun c f d ρio => X c f d (setAll ρ1 ks ρio), e1, ar.same (w := w1) (w' := w1.into bs nd hb) rfl rfl, f1, fun out ρio w2 v hR l2 io ho => ?_, fun c fn d ρio w2 dd v hx l2 io hd hv => ?_⟩
  · have keep : ∀ a ∈ w1.as, ∃ o, w2.H a = some o := fun a z => by
      obtain ⟨o, e⟩ := w1.alive a z
      exact l2.al a o e
    cases out with
    | dat d =>
      have nd2 : (w1.as ++ []).Nodup := by rw [List.append_nil]; exact w1.nd
      have al : ∀ a ∈ w1.as ++ [], ∃ o, w2.H a = some o := fun a z => by rw [List.append_nil] at z; exact keep a z
      have L := Le.back (ex := []) l2 nd2 al (fun a z => by cases z)
      have q := RsR.back (ex := []) (xr := []) l2 nd2 al (fun a z => by cases z) r1 bl kn hk io rfl (fun i a x z => by cases z)
      rw [List.append_nil] at q
      exact k _ _ (w1.back w2 [] nd2 al) v hR (l1.trans L) (show RV K (w1.back w2 [] nd2 al) v d from RV.monoG (w := w2) (w' := w1.back w2 [] nd2 al) (fun _ _ => rfl) (fun _ h => h) ho) q
    | res x =>
      obtain ⟨a, rfl, m1, m2, hx⟩ := ho
      have hf : w1.H a = none := by
        rcases l2.as1 a m1 with z | z
        · exact absurd z m2
        · exact z
      have na : a ∉ w1.as := not_mem_of hf
      have nd2 : (w1.as ++ [a]).Nodup := by
        rw [List.nodup_append]
        refine ⟨w1.nd, List.nodup_cons.mpr ⟨List.not_mem_nil, List.nodup_nil⟩, fun y hy b hb => ?_⟩
        rw [List.mem_singleton] at hb
        subst hb
        intro z; subst z
        exact na hy
      have al : ∀ y ∈ w1.as ++ [a], ∃ o, w2.H y = some o := fun y z => by
        rcases List.mem_append.mp z with z | z
        · exact keep y z
        · rw [List.mem_singleton] at z; subst z; exact w2.alive y m1
      have he : ∀ y ∈ [a], w1.H y = none := fun y z => by rw [List.mem_singleton] at z; subst z; exact hf
      have L := Le.back (ex := [a]) l2 nd2 al he
      have q := RsR.back (ex := [a]) (xr := [x]) l2 nd2 al he r1 bl kn hk io rfl (fun i y u e1 e2 => by
        cases i with
        | zero => cases e1; cases e2; exact hx
        | succ i => cases e1)
      refine k _ _ (w1.back w2 [a] nd2 al) _ hR (l1.trans L) ⟨a, ?_, rfl⟩ q
      show (w1.as ++ [a])[ρ1.length]? = some a
      rw [r1.len, List.getElem?_append_right (Nat.le_refl _), Nat.sub_self]
      rfl
  · have nd2 : (w1.as ++ []).Nodup := by rw [List.append_nil]; exact w1.nd
    have al : ∀ a ∈ w1.as ++ [], ∃ o, w2.H a = some o := fun a z => by
      rw [List.append_nil] at z
      obtain ⟨o, e⟩ := w1.alive a z
      exact l2.al a o e
    have L := Le.back (ex := []) l2 nd2 al (fun a z => by cases z)
    have q := RsR.back (ex := []) (xr := []) l2 nd2 al (fun a z => by cases z) r1 bl kn hk io rfl (fun i a x z => by cases z)
    rw [List.append_nil] at q
    exact hX c fn d _ (w1.back w2 [] nd2 al) dd v hx (l0.trans (l1.trans L)) q hd (RV.monoG (w := w2) (w' := w1.back w2 [] nd2 al) (fun _ _ => rfl) (fun _ h => h) hv)
theorem sim_call {F : AF} {b : List Bool} {E : XK} {X : XA} {t : TA} {a : ATA} (hX : XOk K w0 E X) (ha : SimA K w0 t a) : SimE K w0 (tCall (Conc K F) [] E t) (aCB (aFn b F X) a) := by
  intro w st σ Q Kc l r e h k
  refine ha w st σ _ _ l r e h fun ss ρ1 w1 vs h1 l1 r1 q1 => ?_
  show Conc K F (vs ++ []) w1.H Q E
  rw [List.append_nil]
  exact call_ok (l.trans l1) hX q1 r1 h1 fun s ρ' w' v h2 l2 r2 q2 => k _ _ _ _ h2 (l1.trans l2) r2 q2
theorem xok0 {E : XK} : XOk K w0 E X0 := fun _ _ _ _ _ _ _ h => h.elim
end
end An

set_option Elab.async false
set_option linter.all false
set_option maxRecDepth 100000
namespace Ov
open PySem PySem.Spec PyProof.Rows L2
/-! #### two more built-ins, by what they meet -/
def cIsiX (K : PySem.W.Frag) : List V → Hp → VK → Prop := fun xs H Q => ∃ (x : V) (t n : String), xs = [x, .ty n] ∧ TyX K H x (.type t) ∧ t ∈ (["NoneType", "bool", "int", "str", "tuple", "list"] : List String) ∧ n ∈ tyNames ∧ Q (.bl (t == n || (t == "bool" && n == "int"))) H
theorem call_cIsiX {X : Cx} : CallR X (.builtin "isinstance") (cIsiX X.K) := by
  intro pins s σ H xs us Q I r h
  refine call_isi pins s σ H xs us Q I r ?_
  obtain ⟨x, t, n, rfl, ht, h1, h2, q⟩ := h
  exact ⟨_, _, _, _, _, rfl, .ty n, ht, kit_names X.K t h1 n h2, q⟩
def oSlX (K : PySem.W.Frag) : V → Option Int → Option Int → Hp → VK → Prop := fun x lo hi H Q => (∃ z, x = .str z ∧ z.length ≤ sizeLine ∧ Q (.str (cutS z lo hi)) H) ∨ rSlL K x lo hi H Q ∨ rSlA K x lo hi H Q
theorem sl_oSlX {X : Cx} : SlR X (oSlX X.K) := by
  intro pins s σ H x v vl vu lo hi sl Q I rx hs pl pu h
  rcases h with ⟨z, rfl, h1, h2⟩ | h | h
  · exact sl_str pins s σ H _ v vl vu lo hi sl Q I rx hs pl pu ⟨_, rfl, h1, h2⟩
  · exact sl_list pins s σ H _ v vl vu lo hi sl Q I rx hs pl pu h
  · exact sl_tupA pins s σ H _ v vl vu lo hi sl Q I rx hs pl pu h
end Ov
namespace An
open PySem PySem.Spec PyProof.Rows L2 Ov
/-! #### operators over data -/
def iI (C : Int → Int → Prop) (g : Int → Int → D) : AOp := fun s u ρ Kc => match s, u with
  | .dat (.int i), .dat (.int j) => C i j ∧ Kc (.dat (g i j)) ρ
  | _, _ => False
abbrev fSub : AOp := iI (fun _ _ => True) fun i j => .int (i - j)
abbrev fMod : AOp := iI (fun _ j => 0 < j) fun i j => .int (i % j)
abbrev fDiv : AOp := iI CDivW fun i j => .int (i / j)
abbrev fPow : AOp := iI CPow fun i j => .int (i ^ j.toNat)
abbrev fCmp (p : Int → Int → Bool) : AOp := iI (fun _ _ => True) fun i j => .bl (p i j)
abbrev fLt : AOp := fCmp fun i j => decide (i < j)
abbrev fLe : AOp := fCmp fun i j => decide (i ≤ j)
abbrev fGt : AOp := fCmp fun i j => decide (j < i)
abbrev fGe : AOp := fCmp fun i j => decide (j ≤ i)
def seqOf (ρ : List Res) : Sl → Option (List D)
  | .dat (.tup l) => some l
  | .dat (.lst l) => some l
  | .res k => match ρ[k]? with
    | some (.lst l) => some l
    | _ => none
  | _ => none
def lstOf (ρ : List Res) : Sl → Option (List D)
  | .res k => match ρ[k]? with
    | some (.lst l) => some l
    | _ => none
  | _ => none
def dicOf (ρ : List Res) : Sl → Option (List (Key × D))
  | .dat (.dct l) => some l
  | .res k => match ρ[k]? with
    | some (.dic l) => some l
    | _ => none
  | _ => none
def keyOf : D → Option Key
  | .int i => some (.inl i)
  | .str s => some (.inr s)
  | _ => none
def fAdd : AOp := fun s u ρ Kc => match s, u with
  | .dat (.int i), .dat (.int j) => Kc (.dat (.int (i + j))) ρ
  | .dat (.str a), .dat (.str b) => a.length + b.length ≤ sizeLine ∧ Kc (.dat (.str (a ++ b))) ρ
  | .dat (.tup a), .dat (.tup b) => a.length + b.length ≤ sizeLine ∧ Kc (.dat (.tup (a ++ b))) ρ
  | s, u => match lstOf ρ s, lstOf ρ u with
    | some a, some b => a.length + b.length ≤ sizeLine ∧ Kc (.res ρ.length) (ρ ++ [.lst (a ++ b)])
    | _, _ => False
def fMul : AOp := fun s u ρ Kc => match s, u with
  | .dat (.int i), .dat (.int j) => CMulW i j ∧ Kc (.dat (.int (i * j))) ρ
  | .dat (.str a), .dat (.int n) => MulOk a n ∧ Kc (.dat (.str (Txt.mul a n))) ρ
  | _, _ => False
def fIx : AOp := fun s u ρ Kc => match s, u with
  | .dat (.str z), .dat (.int i) => z.length ≤ sizeLine ∧ (match atI z.cps.toList i with
    | some c => Kc (.dat (.str ⟨#[c]⟩)) ρ
    | none => False)
  | s, .dat u => (match seqOf ρ s, u with
    | some ds, .int i => (match atI ds i with
      | some d => Kc (.dat d) ρ
      | none => False)
    | _, _ => match dicOf ρ s, keyOf u with
      | some kvs, some k => (match (kvs.find? fun kv => decide (kv.1 = k)).map (·.2) with
        | some d => Kc (.dat d) ρ
        | none => False)
      | _, _ => False)
  | _, _ => False
def toV : D → Option V
  | .non => some .non
  | .bl b => some (.bl b)
  | .int i => some (.int i)
  | .str s => some (.str s)
  | _ => none
/-- == of scalars -/
def scD (d e : D) : Option Bool := match toV d, toV e with
  | some x, some y => if scal x y = true then some (decide (x = y)) else none
  | _, _ => none
mutual
def toP : D → Option PyData
  | .non => some .none
  | .bl b => some (.bool b)
  | .int i => some (.int i)
  | .str s => some (.str s)
  | .tup l => (toPs l).map .tuple
  | .lst l => (toPs l).map .list
  | _ => none
def toPs : List D → Option (List PyData)
  | [] => some []
  | d :: r => (toP d).bind fun p => (toPs r).map fun ps => p :: ps
end
def eqK (neg : Bool) (ρ : List Res) (Kc : AK) (d e : D) : Prop := match scD d e with
  | some b => Kc (.dat (.bl (if neg then !b else b))) ρ
  | none => ∃ p q, toP d = some p ∧ toP e = some q ∧ SeqAt.shaped p = true ∧ SeqAt.shaped q = true ∧ Kc (.dat (.bl (if neg then !PyData.eqv p q else PyData.eqv p q))) ρ
def fEq (neg : Bool) : AOp := fun s u ρ Kc => match dOf ρ s, dOf ρ u with
  | some d, some e => eqK neg ρ Kc d e
  | _, _ => False
def flatD (d : D) : Bool := (toV d).isSome
def eqD (d e : D) : Bool := match toV d, toV e with
  | some x, some y => eqV x y
  | _, _ => false
def inD (d : D) (l : List D) : Bool := l.any fun y => eqD y d
def fIn (neg : Bool) : AOp := fun s u ρ Kc => match s, u with
  | .dat (.str x), .dat (.str z) => (match x.cps.toList with
    | [c] => Kc (.dat (.bl (if neg then !decide (c ∈ z.cps.toList) else decide (c ∈ z.cps.toList)))) ρ
    | _ => False)
  | .dat d, u => (match seqOf ρ u with
    | some l => flatD d = true ∧ l.all flatD = true ∧ Kc (.dat (.bl (if neg then !inD d l else inD d l))) ρ
    | none => match dicOf ρ u, keyOf d with
      | some kvs, some k => Kc (.dat (.bl (if neg then !(kvs.any fun kv => decide (kv.1 = k)) else kvs.any fun kv => decide (kv.1 = k)))) ρ
      | _, _ => False)
  | _, _ => False
def fIsN (neg : Bool) : AOp := fun s u ρ Kc => match s, u with
  | .dat .non, .dat .non => Kc (.dat (.bl (!neg))) ρ
  | _, .dat .non => Kc (.dat (.bl neg)) ρ
  | _, _ => False
section
variable {K : PySem.W.Frag} {w : W} {ρ : List Res}
theorem sim_iI {r : R2} {C : Int → Int → Prop} {g : Int → Int → D} {g' : Int → Int → V} (hr : ∀ i j H Q, C i j → Q (g' i j) H → r (.int i) (.int j) H Q) (hg : ∀ i j w, RV K w (g' i j) (g i j)) : SimO K r (iI C g) := by
  intro w ρ x y s u Q Kc rr rx ry h k
  unfold iI at h
  split at h
  · cases int_of rx
    cases int_of ry
    exact hr _ _ _ _ h.1 (k _ _ w _ h.2 (.refl w) (hg _ _ w) rr)
  · exact h.elim
theorem so_sub : SimO K oSub fSub := sim_iI (g' := fun i j => .int (i - j)) (fun i j H Q _ q => q) fun i j w => .int _
theorem so_mod : SimO K oMod fMod := sim_iI (g' := fun i j => .int (i % j)) (fun i j H Q c q => ⟨c, q⟩) fun i j w => .int _
theorem so_div : SimO K oDiv fDiv := sim_iI (g' := fun i j => .int (i / j)) (fun i j H Q c q => ⟨c, q⟩) fun i j w => .int _
theorem so_pow : SimO K oPow fPow := sim_iI (g' := fun i j => .int (i ^ j.toNat)) (fun i j H Q c q => ⟨c, q⟩) fun i j w => .int _
theorem so_cmp {p : Int → Int → Bool} : SimO K (oCmp p) (fCmp p) := sim_iI (g' := fun i j => .bl (p i j)) (fun i j H Q _ q => q) fun i j w => .bl _
theorem lst_of (r : RsR K w ρ) {v : V} {s : Sl} {l : List D} (h : RS K w v s) (e : lstOf ρ s = some l) : ∃ a k xs, v = .ref a ∧ s = .res k ∧ w.as[k]? = some a ∧ ρ[k]? = some (.lst l) ∧ ¬ w.G a ∧ w.H a = some (.lst xs) ∧ RVs K w xs l := by
  unfold lstOf at e
  split at e
  · split at e
    · rename_i hk
      cases e
      obtain ⟨a, ha, rfl⟩ := h
      obtain ⟨n, xs, h1, h2⟩ := r.at_ _ a _ ha hk
      exact ⟨a, _, xs, rfl, rfl, ha, hk, n, h1, h2⟩
    · cases e
  · cases e
theorem seq_of (r : RsR K w ρ) {v : V} {s : Sl} {l : List D} (h : RS K w v s) (e : seqOf ρ s = some l) : ∃ a xs, v = .ref a ∧ (SqL K w.H a xs ∨ SqT K w.H a xs) ∧ RVs K w xs l := by
  unfold seqOf at e
  split at e
  · cases e
    cases (show RV K w v _ from h) with
    | tup f q => exact ⟨_, _, rfl, .inr (f _ fun _ => rfl), q⟩
  · cases e
    cases (show RV K w v _ from h) with
    | lst f q => exact ⟨_, _, rfl, .inl (f _ fun _ => rfl), q⟩
  · split at e
    · rename_i hk
      cases e
      obtain ⟨a, ha, rfl⟩ := h
      obtain ⟨n, xs, h1, h2⟩ := r.at_ _ a _ ha hk
      exact ⟨a, xs, rfl, .inl (SqL.of h1), h2⟩
    · cases e
  · cases e
theorem dic_of (r : RsR K w ρ) {v : V} {s : Sl} {l : List (Key × D)} (h : RS K w v s) (e : dicOf ρ s = some l) : ∃ a xs, v = .ref a ∧ w.H a = some (.dK xs) ∧ RVk K w xs l := by
  unfold dicOf at e
  split at e
  · cases e
    cases (show RV K w v _ from h) with
    | dct g h1 q => exact ⟨_, _, rfl, h1, q⟩
  · split at e
    · rename_i hk
      cases e
      obtain ⟨a, ha, rfl⟩ := h
      obtain ⟨n, xs, h1, h2⟩ := r.at_ _ a _ ha hk
      exact ⟨a, xs, rfl, h1, h2⟩
    · cases e
  · cases e
theorem key_of {v : V} {d : D} {k : Key} (h : RV K w v d) (e : keyOf d = some k) : v = kV k := by
  unfold keyOf at e
  split at e
  · cases e; cases h; rfl
  · cases e; cases h; rfl
  · cases e
theorem RVs.atI {xs : List V} {l : List D} {i : Int} {d : D} (h : RVs K w xs l) (e : L2.atI l i = some d) : ∃ x, L2.atI xs i = some x ∧ RV K w x d := by
  unfold L2.atI at e ⊢
  rw [h.len]
  obtain ⟨j, e1, e2⟩ := Option.bind_eq_some_iff.mp e
  obtain ⟨x, e3, r⟩ := h.get e2
  exact ⟨x, by rw [e1]; exact e3, r⟩
theorem RVk.find : ∀ {xs : List (Key × V)} {l : List (Key × D)} {k : Key} {d : D}, RVk K w xs l → (l.find? fun kv => decide (kv.1 = k)).map (·.2) = some d → ∃ x, valV xs k = some x ∧ RV K w x d
  | _, _, _, _, .nil, e => by cases e
  | _, _, k, d, @RVk.cons _ _ k' x d' xs ds r t, e => by
    unfold valV
    rw [List.find?_cons] at e ⊢
    by_cases h : k' = k
    · simp only [h, decide_true] at e ⊢
      cases e
      exact ⟨x, rfl, r⟩
    · simp only [h, decide_false] at e ⊢
      exact RVk.find t e
theorem RVk.any : ∀ {xs : List (Key × V)} {l : List (Key × D)} (k : Key), RVk K w xs l → (valV xs k).isSome = l.any fun kv => decide (kv.1 = k)
  | _, _, _, .nil => rfl
  | _, _, k, @RVk.cons _ _ k' x d' xs ds r t => by
    unfold valV
    rw [List.find?_cons, List.any_cons]
    by_cases h : k' = k
    · simp only [h, decide_true]; rfl
    · simp only [h, decide_false, Bool.false_or]
      exact RVk.any k t
theorem so_add : SimO K (oAddX K) fAdd := by
  intro w ρ x y s u Q Kc rr rx ry h k
  unfold fAdd at h
  split at h
  · cases int_of rx; cases int_of ry
    exact .inl (k _ _ w _ h (.refl w) (show RV K w _ _ from .int _) rr)
  · cases str_of rx; cases str_of ry
    exact .inl ⟨h.1, k _ _ w _ h.2 (.refl w) (show RV K w _ _ from .str _) rr⟩
  · rename_i a b
    obtain ⟨hl, h⟩ := h
    cases (show RV K w x _ from rx) with
    | @tup p xs _ f q =>
      cases (show RV K w y _ from ry) with
      | @tup p' ys _ f' q' =>
        refine .inr ⟨p, p', xs, ys, rfl, rfl, f _ fun _ => rfl, f' _ fun _ => rfl, by rw [q.len, q'.len]; exact hl, fun e => ?_, fun _ e => ?_, fun _ _ t ht => ?_⟩
        · subst e
          cases q
          exact k _ _ w _ h (.refl w) (show RV K w _ _ from .tup f' q') rr
        · subst e
          cases q'
          rw [List.append_nil] at h
          exact k _ _ w _ h (.refl w) (show RV K w _ _ from .tup f q) rr
        · exact k _ _ (w.fixed t _ ht) _ h (Le.fixed w t _ ht) (new_tup ht (q.app q')) (rr.fixed ht)
  · split at h
    · rename_i a b h1 h2
      obtain ⟨p, i, xs, rfl, rfl, ha, hi, n, e1, q1⟩ := lst_of rr rx h1
      obtain ⟨p', j, ys, rfl, rfl, ha', hj, n', e2, q2⟩ := lst_of rr ry h2
      refine .inl (.inl ⟨p, p', xs, ys, rfl, rfl, e1, e2, by rw [q1.len, q2.len]; exact h.1, fun t ht => ?_⟩)
      obtain ⟨z1, z2⟩ := new_res ht rr (new_lst ht (q1.app q2))
      exact k _ _ (w.grown t _ ht) _ h.2 (Le.grown w t _ ht) z1 z2
    · exact h.elim
theorem so_mul : SimO K oMul fMul := by
  intro w ρ x y s u Q Kc rr rx ry h k
  unfold fMul at h
  split at h
  · cases int_of rx; cases int_of ry
    exact ⟨h.1, k _ _ w _ h.2 (.refl w) (show RV K w _ _ from .int _) rr⟩
  · cases str_of rx; cases int_of ry
    exact ⟨h.1, k _ _ w _ h.2 (.refl w) (show RV K w _ _ from .str _) rr⟩
  · exact h.elim
theorem so_ix : SimO K (oIxX K) fIx := by
  intro w ρ x y s u Q Kc rr rx ry h k
  unfold fIx at h
  split at h
  · cases str_of rx; cases int_of ry
    obtain ⟨hz, h⟩ := h
    split at h
    · rename_i c e
      exact .inl ⟨c, hz, e, k _ _ w _ h (.refl w) (show RV K w _ _ from .str _) rr⟩
    · exact h.elim
  · split at h
    · rename_i hs _
      cases int_of ry
      split at h
      · rename_i d e
        obtain ⟨a, xs, rfl, hq, q⟩ := seq_of rr rx hs
        obtain ⟨v, e', rv⟩ := q.atI e
        exact .inl ⟨xs, v, hq, e', k _ _ w _ h (.refl w) rv rr⟩
      · exact h.elim
    · split at h
      · rename_i kvs kk h1 h2
        split at h
        · rename_i d e
          obtain ⟨a, xs, rfl, hd, q⟩ := dic_of rr rx h1
          obtain ⟨v, e', rv⟩ := q.find e
          refine .inr ⟨a, v, rfl, ?_, k _ _ w _ h (.refl w) rv rr⟩
          rw [key_of ry h2, ← e']
          exact DGet.k hd
        · exact h.elim
      · exact h.elim
  · exact h.elim
theorem toV_of {v x : V} {d : D} (h : RV K w v d) (e : toV d = some x) : v = x := by
  unfold toV at e
  split at e <;> cases e <;> cases h <;> rfl
mutual
theorem dp_of : ∀ {d : D} {v : V} {p : PyData}, RV K w v d → toP d = some p → Dp K w.H v p
  | .non, _, _, h, e => by cases h; cases e; exact .non
  | .bl b, _, _, h, e => by cases h; cases e; exact .bl b
  | .int i, _, _, h, e => by cases h; cases e; exact .int i
  | .str s, _, _, h, e => by cases h; cases e; exact .str s
  | .tup l, _, p, h, e => by
    cases h with
    | tup f q =>
      unfold toP at e
      obtain ⟨ps, e1, rfl⟩ := Option.map_eq_some_iff.mp e
      exact .tup (f _ fun _ => rfl) (dps_of q e1)
  | .lst l, _, p, h, e => by
    cases h with
    | lst f q =>
      unfold toP at e
      obtain ⟨ps, e1, rfl⟩ := Option.map_eq_some_iff.mp e
      exact .lst (f _ fun _ => rfl) (dps_of q e1)
  | .ty _, _, _, _, e => by cases e
  | .ad _, _, _, _, e => by cases e
  | .dct _, _, _, _, e => by cases e
  | .obj _ _, _, _, _, e => by cases e
theorem dps_of : ∀ {l : List D} {xs : List V} {ps : List PyData}, RVs K w xs l → toPs l = some ps → DpAll K w.H xs ps
  | [], _, _, h, e => by cases h; cases e; exact .nil
  | d :: r, _, ps, h, e => by
    cases h with
    | cons h1 h2 =>
      unfold toPs at e
      obtain ⟨p, e1, e2⟩ := Option.bind_eq_some_iff.mp e
      obtain ⟨qs, e3, rfl⟩ := Option.map_eq_some_iff.mp e2
      exact .cons (dp_of h1 e1) (dps_of h2 e3)
end
theorem dpO_of (r : RsR K w ρ) {v : V} {s : Sl} {d : D} {p : PyData} (h : RS K w v s) (e : dOf ρ s = some d) (ep : toP d = some p) : Dp K w.H v p := by
  cases s with
  | dat d' => cases e; exact dp_of h ep
  | res k =>
    obtain ⟨a, ha, rfl⟩ := h
    obtain ⟨x, hx, hd⟩ := Option.bind_eq_some_iff.mp (show (ρ[k]?).bind Res.data = some d from e)
    have hr := r.at_ k a x ha hx
    cases x with
    | lst ds =>
      cases hd
      obtain ⟨_, xs, h1, h2⟩ := hr
      unfold toP at ep
      obtain ⟨ps, e1, rfl⟩ := Option.map_eq_some_iff.mp ep
      exact .lst (SqL.of h1) (dps_of h2 e1)
    | dic ds => cases hd; cases ep
    | ins C ds => cases hd; cases ep
    | pool => cases hd
    | fz e' => cases hd; exact dp_of hr ep
theorem rvO_of (r : RsR K w ρ) {v x : V} {s : Sl} {d : D} (h : RS K w v s) (e : dOf ρ s = some d) (ex : toV d = some x) : v = x := by
  cases s with
  | dat d' => cases e; exact toV_of h ex
  | res k =>
    obtain ⟨a, ha, rfl⟩ := h
    obtain ⟨y, hy, hd⟩ := Option.bind_eq_some_iff.mp (show (ρ[k]?).bind Res.data = some d from e)
    have hr := r.at_ k a y ha hy
    cases y with
    | lst ds => cases hd; cases ex
    | dic ds => cases hd; cases ex
    | ins C ds => cases hd; cases ex
    | pool => cases hd
    | fz e' => cases hd; exact toV_of hr ex
theorem sc_of {d e : D} {b : Bool} (h : scD d e = some b) : ∃ x y, toV d = some x ∧ toV e = some y ∧ scal x y = true ∧ b = decide (x = y) := by
  unfold scD at h
  split at h
  · rename_i x y h1 h2
    split at h
    · rename_i hs
      cases h
      exact ⟨x, y, h1, h2, hs, rfl⟩
    · cases h
  · cases h
theorem so_eq : SimO K (oEq K) (fEq false) := by
  intro w ρ x y s u Q Kc rr rx ry h k
  unfold fEq at h
  split at h
  · rename_i d e h1 h2
    unfold eqK at h
    split at h
    · rename_i b hb
      obtain ⟨x', y', e1, e2, hs, rfl⟩ := sc_of hb
      rw [rvO_of rr rx h1 e1, rvO_of rr ry h2 e2]
      exact .inl ⟨hs, k _ _ w _ h (.refl w) (show RV K w _ _ from .bl _) rr⟩
    · obtain ⟨p, q, e1, e2, s1, s2, h⟩ := h
      exact .inr ⟨p, q, dpO_of rr rx h1 e1, dpO_of rr ry h2 e2, s1, s2, k _ _ w _ h (.refl w) (show RV K w _ _ from .bl _) rr⟩
  · exact h.elim
theorem so_ne : SimO K (oNe K) (fEq true) := by
  intro w ρ x y s u Q Kc rr rx ry h k
  unfold fEq at h
  split at h
  · rename_i d e h1 h2
    unfold eqK at h
    split at h
    · rename_i b hb
      obtain ⟨x', y', e1, e2, hs, rfl⟩ := sc_of hb
      rw [rvO_of rr rx h1 e1, rvO_of rr ry h2 e2]
      exact .inl ⟨hs, k _ _ w _ h (.refl w) (show RV K w _ _ from .bl _) rr⟩
    · obtain ⟨p, q, e1, e2, s1, s2, h⟩ := h
      exact .inr ⟨p, q, dpO_of rr rx h1 e1, dpO_of rr ry h2 e2, s1, s2, k _ _ w _ h (.refl w) (show RV K w _ _ from .bl _) rr⟩
  · exact h.elim
theorem flat_of {v : V} {d : D} (h : RV K w v d) (e : flatD d = true) : ∃ x, toV d = some x ∧ v = x ∧ flatV x = true := by
  unfold flatD at e
  obtain ⟨x, hx⟩ := Option.isSome_iff_exists.mp e
  refine ⟨x, hx, toV_of h hx, ?_⟩
  unfold toV at hx
  split at hx <;> cases hx <;> rfl
theorem flats_of : ∀ {xs : List V} {l : List D}, RVs K w xs l → l.all flatD = true → xs.all flatV = true ∧ ∀ x d, toV d = some x → inV x xs = inD d l
  | _, _, .nil, _ => ⟨rfl, fun _ _ _ => rfl⟩
  | _, _, @RVs.cons _ _ x d xs ds r t, e => by
    rw [List.all_cons, Bool.and_eq_true] at e
    obtain ⟨h1, h2⟩ := flats_of t e.2
    obtain ⟨v, e1, rfl, e2⟩ := flat_of r e.1
    refine ⟨by rw [List.all_cons, e2, h1]; rfl, fun y z hy => ?_⟩
    have := h2 y z hy
    unfold inV inD at this ⊢
    rw [List.any_cons, List.any_cons, this]
    congr 1
    unfold eqD
    rw [e1, hy]
theorem so_in_ (neg : Bool) {r : R2} (hs : ∀ c z H Q, Q (.bl (if neg then !decide (c ∈ z.cps.toList) else decide (c ∈ z.cps.toList))) H → r (.str ⟨#[c]⟩) (.str z) H Q) (hq : ∀ x y H Q, rIn K neg x y H Q → r x y H Q)
    (hd : ∀ x y H Q, rInD neg x y H Q → r x y H Q) : SimO K r (fIn neg) := by
  intro w ρ x y s u Q Kc rr rx ry h k
  unfold fIn at h
  split at h
  · cases str_of rx; cases str_of ry
    split at h
    · rename_i x' z _ c e
      have : x' = ⟨#[c]⟩ := by
        have : x'.cps = #[c] := by rw [← Array.toList_inj, e]
        cases x'; exact congrArg _ this
      subst this
      exact hs _ _ _ _ (k _ _ w _ h (.refl w) (show RV K w _ _ from .bl _) rr)
    · exact h.elim
  · split at h
    · rename_i l hl
      obtain ⟨f1, f2, h⟩ := h
      obtain ⟨a, xs, rfl, sq, q⟩ := seq_of rr ry hl
      obtain ⟨v, e1, rfl, e2⟩ := flat_of rx f1
      obtain ⟨g1, g2⟩ := flats_of q f2
      refine hq _ _ _ _ ⟨a, xs, rfl, sq, e2, g1, ?_⟩
      rw [g2 _ _ e1]
      exact k _ _ w _ h (.refl w) (show RV K w _ _ from .bl _) rr
    · split at h
      · rename_i kvs kk h1 h2
        obtain ⟨a, xs, rfl, hdd, q⟩ := dic_of rr ry h1
        refine hd _ _ _ _ ⟨a, _, rfl, by rw [key_of rx h2]; exact DGet.k hdd, ?_⟩
        rw [q.any kk]
        exact k _ _ w _ h (.refl w) (show RV K w _ _ from .bl _) rr
      · exact h.elim
  · exact h.elim
theorem so_in : SimO K (oInX K) (fIn false) := so_in_ false (fun c z H Q q => .inl ⟨c, rfl, q⟩) (fun x y H Q q => .inl (by
    obtain ⟨a, xs, rfl, z⟩ := q
    exact .inl ⟨a, xs, rfl, z⟩)) fun x y H Q q => .inr q
theorem so_notIn : SimO K (oNotInX K) (fIn true) := so_in_ true (fun c z H Q q => .inl ⟨c, rfl, q⟩) (fun x y H Q q => .inl (by
    obtain ⟨a, xs, rfl, z⟩ := q
    exact .inl ⟨a, xs, rfl, z⟩)) fun x y H Q q => .inr q
theorem nonne {v : V} {s : Sl} (h : RS K w v s) (ne : s ≠ .dat .non) : decide (v = .non) = false := by
  refine decide_eq_false fun z => ?_
  subst z
  cases s with
  | dat d => cases (show RV K w .non d from h); exact ne rfl
  | res k => obtain ⟨_, _, z⟩ := h; cases z
theorem so_isN : SimO K oIsN (fIsN false) := by
  intro w ρ x y s u Q Kc rr rx ry h k
  unfold fIsN at h
  split at h
  · cases non_of rx; cases non_of ry
    exact ⟨rfl, k _ _ w _ h (.refl w) (show RV K w _ _ from .bl _) rr⟩
  · rename_i s ne
    cases non_of ry
    refine ⟨rfl, ?_⟩
    rw [nonne rx fun z => ne z]
    exact k _ _ w _ h (.refl w) (show RV K w _ _ from .bl _) rr
  · exact h.elim
theorem so_notN : SimO K oNotN (fIsN true) := by
  intro w ρ x y s u Q Kc rr rx ry h k
  unfold fIsN at h
  split at h
  · cases non_of rx; cases non_of ry
    exact ⟨rfl, k _ _ w _ h (.refl w) (show RV K w _ _ from .bl _) rr⟩
  · rename_i s ne
    cases non_of ry
    refine ⟨rfl, ?_⟩
    rw [nonne rx fun z => ne z]
    exact k _ _ w _ h (.refl w) (show RV K w _ _ from .bl _) rr
  · exact h.elim
end
end An

set_option Elab.async false
set_option linter.all false
set_option maxRecDepth 100000
namespace An
open PySem PySem.Spec PyProof.Rows L2 Ov
/-! #### built-in functions over data -/
def fLen : ACb := fun ss ρ Kc => match ss with
  | [.dat (.str z)] => z.length ≤ sizeLine ∧ Kc (.dat (.int z.length)) ρ
  | [s] => (match seqOf ρ s with
    | some l => Kc (.dat (.int l.length)) ρ
    | none => match dicOf ρ s with
      | some l => Kc (.dat (.int l.length)) ρ
      | none => False)
  | _ => False
def fInt : ACb := fun ss ρ Kc => match ss with
  | [.dat (.int i)] => Kc (.dat (.int i)) ρ
  | [.dat (.bl k)] => Kc (.dat (.int (if k then 1 else 0))) ρ
  | _ => False
def fAbs : ACb := fun ss ρ Kc => match ss with
  | [.dat (.int i)] => Kc (.dat (.int (i.natAbs : Int))) ρ
  | _ => False
/-- lists, fixed or not -/
def lsOf (ρ : List Res) : Sl → Option (List D)
  | .dat (.lst l) => some l
  | .res k => match ρ[k]? with
    | some (.lst l) => some l
    | _ => none
  | _ => none
def fTuple : ACb := fun ss ρ Kc => match ss with
  | [.dat (.tup l)] => Kc (.dat (.tup l)) ρ
  | [s] => (match lsOf ρ s with
    | some l => Kc (.dat (.tup l)) ρ
    | none => False)
  | _ => False
def fList : ACb := fun ss ρ Kc => match ss with
  | [s] => (match seqOf ρ s with
    | some l => Kc (.res ρ.length) (ρ ++ [.lst l])
    | none => False)
  | _ => False
/-- the name of a value's type -/
def tyD (ρ : List Res) : Sl → Option String
  | .dat .non => some "NoneType"
  | .dat (.bl _) => some "bool"
  | .dat (.int _) => some "int"
  | .dat (.str _) => some "str"
  | .dat (.tup _) => some "tuple"
  | .dat (.lst _) => some "list"
  | .res k => match ρ[k]? with
    | some (.lst _) => some "list"
    | _ => none
  | _ => none
def fIsi : ACb := fun ss ρ Kc => match ss with
  | [s, .dat (.ty n)] => n ∈ tyNames ∧ (match tyD ρ s with
    | some t => Kc (.dat (.bl (t == n || (t == "bool" && n == "int")))) ρ
    | none => False)
  | _ => False
section
variable {K : PySem.W.Frag}
theorem one_of {w : W} {xs : List V} {s : Sl} (h : RSs K w xs [s]) : ∃ x, xs = [x] ∧ RS K w x s := by
  cases h with
  | cons h t => cases t; exact ⟨_, rfl, h⟩
theorem sc_len : SimC K (cLenX K) fLen := by
  intro w ρ xs ss Q Kc rr rx h k
  unfold fLen at h
  split at h
  · obtain ⟨x, rfl, r⟩ := one_of rx
    cases str_of r
    exact .inl (q_lenS h.1 (k _ _ w _ h.2 (.refl w) (show RV K w _ _ from .int _) rr))
  · obtain ⟨x, rfl, r⟩ := one_of rx
    split at h
    · rename_i l hl
      obtain ⟨a, ys, rfl, hq, q⟩ := seq_of rr r hl
      refine .inl ⟨_, ys.length, rfl, hq.elim (fun z => .inl ⟨ys, z, rfl⟩) (fun z => .inr ⟨ys, z, rfl⟩), ?_⟩
      rw [q.len]
      exact k _ _ w _ h (.refl w) (show RV K w _ _ from .int _) rr
    · split at h
      · rename_i l hl
        obtain ⟨a, ys, rfl, hq, q⟩ := dic_of rr r hl
        refine .inr ⟨a, ys, rfl, .inl hq, ?_⟩
        have : ys.length = l.length := by
          clear hq h hl
          revert q
          induction ys generalizing l with
          | nil => intro q; cases q; rfl
          | cons y ys ih => intro q; cases q with | cons r t => rw [List.length_cons, List.length_cons, ih _ t]
        rw [this]
        exact k _ _ w _ h (.refl w) (show RV K w _ _ from .int _) rr
      · exact h.elim
  · exact h.elim
theorem sc_int : SimC K cInt fInt := by
  intro w ρ xs ss Q Kc rr rx h k
  unfold fInt at h
  split at h
  · obtain ⟨x, rfl, r⟩ := one_of rx
    cases int_of r
    exact k _ _ w _ h (.refl w) (show RV K w _ _ from .int _) rr
  · obtain ⟨x, rfl, r⟩ := one_of rx
    cases bl_of r
    exact k _ _ w _ h (.refl w) (show RV K w _ _ from .int _) rr
  · exact h.elim
theorem sc_abs : SimC K cAbs fAbs := by
  intro w ρ xs ss Q Kc rr rx h k
  unfold fAbs at h
  split at h
  · obtain ⟨x, rfl, r⟩ := one_of rx
    cases int_of r
    exact k _ _ w _ h (.refl w) (show RV K w _ _ from .int _) rr
  · exact h.elim
theorem ls_of {w : W} {ρ : List Res} (r : RsR K w ρ) {v : V} {s : Sl} {l : List D} (h : RS K w v s) (e : lsOf ρ s = some l) : ∃ a xs, v = .ref a ∧ SqL K w.H a xs ∧ RVs K w xs l := by
  unfold lsOf at e
  split at e
  · cases e
    cases (show RV K w v _ from h) with
    | lst f q => exact ⟨_, _, rfl, f _ fun _ => rfl, q⟩
  · split at e
    · rename_i hk
      cases e
      obtain ⟨a, ha, rfl⟩ := h
      obtain ⟨n, xs, h1, h2⟩ := r.at_ _ a _ ha hk
      exact ⟨a, xs, rfl, SqL.of h1, h2⟩
    · cases e
  · cases e
theorem sc_tuple : SimC K (cTupX K) fTuple := by
  intro w ρ xs ss Q Kc rr rx h k
  unfold fTuple at h
  split at h
  · obtain ⟨x, rfl, r⟩ := one_of rx
    cases (show RV K w x _ from r) with
    | tup f q => exact ⟨_, _, rfl, .inr ⟨f _ fun _ => rfl, k _ _ w _ h (.refl w) (show RV K w _ _ from .tup f q) rr⟩⟩
  · obtain ⟨x, rfl, r⟩ := one_of rx
    split at h
    · rename_i l hl
      obtain ⟨a, ys, rfl, hq, q⟩ := ls_of rr r hl
      exact ⟨a, ys, rfl, .inl ⟨hq, fun t ht => k _ _ (w.fixed t _ ht) _ h (Le.fixed w t _ ht) (new_tup ht q) (rr.fixed ht)⟩⟩
    · exact h.elim
  · exact h.elim
theorem sc_list : SimC K (cList K) fList := by
  intro w ρ xs ss Q Kc rr rx h k
  unfold fList at h
  split at h
  · obtain ⟨x, rfl, r⟩ := one_of rx
    split at h
    · rename_i l hl
      obtain ⟨a, ys, rfl, hq, q⟩ := seq_of rr r hl
      refine ⟨a, ys, rfl, hq, fun t ht => ?_⟩
      obtain ⟨z1, z2⟩ := new_res ht rr (new_lst ht q)
      exact k _ _ (w.grown t _ ht) _ h (Le.grown w t _ ht) z1 z2
    · exact h.elim
  · exact h.elim
theorem ty_sq {w : W} {a : Addr} {xs : List V} : (SqL K w.H a xs → TyX K w.H (.ref a) (.type "list")) ∧ (SqT K w.H a xs → TyX K w.H (.ref a) (.type "tuple")) := by
  refine ⟨fun h => ?_, fun h => ?_⟩
  · rcases h with (h | ⟨o, h⟩) | ⟨o, its, n, h, c, _⟩
    · exact .base (.lst h)
    · exact .base (.frz h)
    · exact .kList h c
  · rcases h with (h | ⟨o, h⟩) | ⟨o, its, n, h, c, _⟩
    · exact .base (.tup h)
    · exact .fTuple h
    · exact .kTuple h c
theorem ty_of {w : W} {ρ : List Res} (r : RsR K w ρ) {v : V} {s : Sl} {t : String} (h : RS K w v s) (e : tyD ρ s = some t) : TyX K w.H v (.type t) ∧ t ∈ (["NoneType", "bool", "int", "str", "tuple", "list"] : List String) := by
  unfold tyD at e
  split at e
  · cases e; cases non_of h; exact ⟨.base .non, by simp⟩
  · cases e; cases bl_of h; exact ⟨.base (.bl _), by simp⟩
  · cases e; cases int_of h; exact ⟨.base (.int _), by simp⟩
  · cases e; cases str_of h; exact ⟨.base (.str _), by simp⟩
  · cases e
    cases (show RV K w v _ from h) with
    | tup f q => exact ⟨ty_sq.2 (f _ fun _ => rfl), by simp⟩
  · cases e
    cases (show RV K w v _ from h) with
    | lst f q => exact ⟨ty_sq.1 (f _ fun _ => rfl), by simp⟩
  · split at e
    · rename_i hk
      cases e
      obtain ⟨a, ha, rfl⟩ := h
      obtain ⟨n, xs, h1, h2⟩ := r.at_ _ a _ ha hk
      exact ⟨.base (.lst h1), by simp⟩
    · cases e
  · cases e
theorem sc_isi : SimC K (cIsiX K) fIsi := by
  intro w ρ xs ss Q Kc rr rx h k
  unfold fIsi at h
  split at h
  · rename_i s n
    cases rx with
    | cons r1 t =>
      obtain ⟨y, rfl, r2⟩ := one_of t
      cases (show RV K w y _ from r2)
      obtain ⟨hn, h⟩ := h
      split at h
      · rename_i t ht
        obtain ⟨z1, z2⟩ := ty_of rr r1 ht
        exact ⟨_, t, n, rfl, z1, z2, hn, k _ _ w _ h (.refl w) (show RV K w _ _ from .bl _) rr⟩
      · exact h.elim
  · exact h.elim
end
/-! #### slices -/
def cutD (xs : List D) (lo hi : Option Int) : List D := (xs.drop (HT.sIx xs.length 0 lo)).take (HT.sIx xs.length xs.length hi - HT.sIx xs.length 0 lo)
def fSl : ASl := fun s lo hi ρ Kc => match s with
  | .dat (.str z) => z.length ≤ sizeLine ∧ Kc (.dat (.str (cutS z lo hi))) ρ
  | .dat (.tup l) => Kc (.dat (.tup (cutD l lo hi))) ρ
  | s => match lsOf ρ s with
    | some l => Kc (.res ρ.length) (ρ ++ [.lst (cutD l lo hi)])
    | none => False
section
variable {K : PySem.W.Frag}
theorem RVs.cut {w : W} {xs : List V} {l : List D} (q : RVs K w xs l) (lo hi : Option Int) : RVs K w (cutV xs lo hi) (cutD l lo hi) := by
  unfold cutV cutD
  rw [q.len]
  exact (q.drop _).take _
theorem cut_all (l : List D) (lo hi : Option Int) (h : HT.sIx l.length 0 lo = 0 ∧ HT.sIx l.length l.length hi = l.length) : cutD l lo hi = l := by
  unfold cutD
  rw [h.1, h.2, List.drop_zero, Nat.sub_zero, List.take_length]
theorem sl_X : SimL K (oSlX K) fSl := by
  intro w ρ x s lo hi Q Kc rr rx h k
  unfold fSl at h
  split at h
  · cases str_of rx
    exact .inl ⟨_, rfl, h.1, k _ _ w _ h.2 (.refl w) (show RV K w _ _ from .str _) rr⟩
  · rename_i l
    cases (show RV K w x _ from rx) with
    | @tup a xs _ f q =>
      refine .inr (.inr ⟨a, xs, rfl, f _ fun _ => rfl, fun e => ?_, fun _ t ht => ?_⟩)
      · rw [q.len] at e
        rw [cut_all l lo hi e] at h
        exact k _ _ w _ h (.refl w) (show RV K w _ _ from .tup f q) rr
      · exact k _ _ (w.fixed t _ ht) _ h (Le.fixed w t _ ht) (new_tup ht (q.cut lo hi)) (rr.fixed ht)
  · split at h
    · rename_i l hl
      obtain ⟨a, xs, rfl, hq, q⟩ := ls_of rr rx hl
      refine .inr (.inl ⟨a, xs, rfl, hq, fun t ht => ?_⟩)
      obtain ⟨z1, z2⟩ := new_res ht rr (new_lst ht (q.cut lo hi))
      exact k _ _ (w.grown t _ ht) _ h (Le.grown w t _ ht) z1 z2
    · exact h.elim
end
/-! #### targets -/
abbrev ATGs := List Sl → ASt → (ASt → Prop) → Prop
def aGNil : ATGs := fun ss st Kc => ss = [] ∧ Kc st
def aGCons (a : ATG) (r : ATGs) : ATGs := fun ss st Kc => match ss with
  | s :: ss => a s st fun st1 => r ss st1 Kc
  | [] => False
def aGTup (n : Nat) (g : ATGs) : ATG := fun s st Kc => match s with
  | .dat (.tup l) => l.length = n ∧ g (l.map .dat) st Kc
  | _ => False
def putD (kvs : List (Key × D)) (k : Key) (d : D) : List (Key × D) := if (kvs.any fun kv => decide (kv.1 = k)) = true then kvs.map (fun kv => if kv.1 = k then (kv.1, d) else kv) else kvs ++ [(k, d)]
def setX (o i : Sl) (d : D) (ρ : List Res) (Kc : List Res → Prop) : Prop := match o, i with
  | .res k, .dat i => (match ρ[k]?, i with
    | some (.lst l), .int j => (match ixN l.length j with
      | some m => Kc (ρ.set k (.lst (l.set m d)))
      | none => False)
    | some (.dic l), i => (match keyOf i with
      | some key => l.length < sizeLine ∧ Kc (ρ.set k (.dic (putD l key d)))
      | none => False)
    | _, _ => False)
  | _, _ => False
def aSub (ao ai : ATE) : ATG := fun s st Kc => ao st fun o ρ1 => ai ⟨st.δ, ρ1⟩ fun i ρ2 => frz ρ2 (nrm ρ2 s) fun d ρ3 => setX (nrm ρ3 o) i d ρ3 fun ρ4 => Kc ⟨st.δ, ρ4⟩
section
variable {K : PySem.W.Frag} {w0 : W}
def SimGs (K : PySem.W.Frag) (w0 : W) (g : TGs) (a : ATGs) : Prop := ∀ w st σ vs ss (Q : L2.St → Hp → Prop) (Kc : ASt → Prop), Le w0 w → RsR K w st.ρ → RE K w st.δ σ → RSs K w vs ss → a ss st Kc →
  (∀ st' σ' w', Kc st' → Le w w' → RsR K w' st'.ρ → RE K w' st'.δ σ' → Q σ' w'.H) → g vs σ w.H Q
theorem sim_gnil : SimGs K w0 gNil aGNil := by
  intro w st σ vs ss Q Kc l r e h hk k
  obtain ⟨rfl, hk⟩ := hk
  cases h
  exact ⟨rfl, k _ _ w hk (.refl w) r e⟩
theorem sim_gcons {g : TG} {gs : TGs} {a : ATG} {as : ATGs} (h1 : SimG K w0 g a) (h2 : SimGs K w0 gs as) : SimGs K w0 (gCons g gs) (aGCons a as) := by
  intro w st σ vs ss Q Kc l r e h hk k
  unfold aGCons at hk
  split at hk
  · cases h with
    | cons hv ht =>
      refine ⟨_, _, rfl, h1 w st σ _ _ _ _ l r e hv hk fun st1 σ1 w1 k1 l1 r1 e1 => ?_⟩
      exact h2 w1 st1 σ1 _ _ _ _ (l.trans l1) r1 e1 (ht.mono l1) k1 fun st' σ' w' k2 l2 r2 e2 => k _ _ _ k2 (l1.trans l2) r2 e2
  · exact hk.elim
theorem RVs.sls {w : W} : ∀ {xs : List V} {l : List D}, RVs K w xs l → RSs K w xs (l.map .dat)
  | _, _, .nil => .nil
  | _, _, .cons r t => .cons (show RV K w _ _ from r) (RVs.sls t)
theorem sim_gtup {n : Nat} {gs : TGs} {as : ATGs} (h2 : SimGs K w0 gs as) : SimG K w0 (gTup K n gs) (aGTup n as) := by
  intro w st σ v s Q Kc l r e h hk k
  unfold aGTup at hk
  split at hk
  · cases (show RV K w v _ from h) with
    | @tup a xs ds f q =>
      exact ⟨a, xs, rfl, f _ fun _ => rfl, by rw [q.len]; exact hk.1, h2 w st σ _ _ _ _ l r e q.sls hk.2 k⟩
  · exact hk.elim
theorem RVk.put {w : W} {v : V} {d : D} (hv : RV K w v d) (k : Key) : ∀ {xs : List (Key × V)} {l : List (Key × D)}, RVk K w xs l → RVk K w (putK xs k v) (putD l k d) := by
  have mp : ∀ {xs : List (Key × V)} {l : List (Key × D)}, RVk K w xs l → RVk K w (xs.map fun kv => if kv.1 = k then (kv.1, v) else kv) (l.map fun kv => if kv.1 = k then (kv.1, d) else kv) := by
    intro xs
    induction xs with
    | nil => intro l h; cases h; exact .nil
    | cons x xs ih =>
      intro l h
      cases h with
      | @cons k' x d' _ ds r t =>
        rw [List.map_cons, List.map_cons]
        by_cases e : k' = k
        · simp only [e, if_true]; exact .cons hv (ih t)
        · simp only [e, if_false]; exact .cons r (ih t)
  have ap : ∀ {xs : List (Key × V)} {l : List (Key × D)}, RVk K w xs l → RVk K w (xs ++ [(k, v)]) (l ++ [(k, d)]) := by
    intro xs
    induction xs with
    | nil => intro l h; cases h; exact .cons hv .nil
    | cons x xs ih =>
      intro l h
      cases h with
      | cons r t => exact .cons r (ih t)
  have an : ∀ {xs : List (Key × V)} {l : List (Key × D)}, RVk K w xs l → (xs.any fun kv => decide (kv.1 = k)) = l.any fun kv => decide (kv.1 = k) := by
    intro xs
    induction xs with
    | nil => intro l h; cases h; rfl
    | cons x xs ih =>
      intro l h
      cases h with
      | cons r t => rw [List.any_cons, List.any_cons, ih t]
  intro xs l h
  unfold putK putD
  rw [an h]
  split
  · exact mp h
  · exact ap h
theorem RVk.len {w : W} : ∀ {xs : List (Key × V)} {l : List (Key × D)}, RVk K w xs l → xs.length = l.length
  | _, _, .nil => rfl
  | _, _, .cons _ t => by rw [List.length_cons, List.length_cons, RVk.len t]
theorem sim_sub {to ti : TE} {ao ai : ATE} (h1 : SimE K w0 to ao) (h2 : SimE K w0 ti ai) : SimG K w0 (gSub to ti rSetX) (aSub ao ai) := by
  intro w st σ v s Q Kc l r e h hk k
  refine h1 w st σ _ _ l r e hk fun o ρ1 w1 ov h1' l1 r1 q1 => ?_
  refine h2 w1 ⟨st.δ, ρ1⟩ σ _ _ (l.trans l1) q1 (e.mono l1) h1' fun i ρ2 w2 iv h2' l2 r2 q2 => ?_
  obtain ⟨d, ρ3, w3, h3, l3, e3, r3, q3⟩ := sim_frz q2 ((h.mono (l1.trans l2)).nrm q2) h2'
  rw [← e3]
  have ro := (r1.mono (l2.trans l3)).nrm q3
  have ri := r2.mono l3
  have L := l1.trans (l2.trans l3)
  revert ro h3
  generalize nrm ρ3 o = o'
  intro h3 ro
  unfold setX at h3
  split at h3
  · rename_i kk i
    obtain ⟨a, ha, rfl⟩ := ro
    split at h3
    · rename_i ll j hk'
      obtain ⟨ng, xs, hx, qx⟩ := q3.at_ kk a _ ha hk'
      cases int_of ri
      split at h3
      · rename_i m hm
        refine .inl ⟨a, xs, j, m, rfl, rfl, hx, by rw [qx.len]; exact hm, ?_⟩
        have L2 := Le.wrote w3 a (.lst (xs.set m v)) (as_mem ha) ng
        refine k _ _ (w3.wrote a _ (as_mem ha)) h3 (L.trans L2) (q3.wrote ha ng ?_) (e.mono (L.trans L2))
        exact ⟨ng, _, upd_same, (qx.set r3 m).mono L2⟩
      · exact h3.elim
    · rename_i ll hk'
      obtain ⟨ng, xs, hx, qx⟩ := q3.at_ kk a _ ha hk'
      split at h3
      · rename_i key hkey
        refine .inr ⟨a, _, rfl, by rw [key_of ri hkey]; exact DPut.k hx (by rw [qx.len]; exact h3.1), ?_⟩
        have L2 := Le.wrote w3 a (.dK (putK xs key v)) (as_mem ha) ng
        refine k _ _ (w3.wrote a _ (as_mem ha)) h3.2 (L.trans L2) (q3.wrote ha ng ?_) (e.mono (L.trans L2))
        exact ⟨ng, _, upd_same, (RVk.put r3 key qx).mono L2⟩
      · exact h3.elim
    · exact h3.elim
  · exact h3.elim
end
end An

set_option Elab.async false
set_option linter.all false
set_option maxRecDepth 100000
namespace An
open PySem PySem.Spec PyProof.Rows L2 Ov
/-! #### loops -/
/-- what is walked: its items; what must stay so at each turn -/
abbrev AIt := ASt → (List D → (List Res → Prop) → List Res → Prop) → Prop
def chD (z : Str) : List D := z.cps.toList.map fun c => .str ⟨#[c]⟩
/-- the list that is walked stays as it is -/
def still (s : Sl) (l : List D) (ρ : List Res) : Prop := match s with
  | .dat _ => True
  | .res k => ρ[k]? = some (.lst l) ∨ ρ[k]? = some (.fz (.lst l))
def iAnyA (a : ATE) : AIt := fun st Kc => a st fun s ρ1 => match s with
  | .dat (.str z) => Kc (chD z) (fun _ => True) ρ1
  | .dat (.tup l) => Kc l (fun _ => True) ρ1
  | s => match lsOf ρ1 s with
    | some l => Kc l (still s l) ρ1
    | none => False
def rngD (lo : Int) (n : Nat) : List D := (List.range n).map fun i => .int (lo + (i : Nat))
abbrev KI := List D → (List Res → Prop) → List Res → Prop
@[reducible] def kRng1 (Kc : KI) : List Sl → List Res → Prop := fun ss ρ1 => match ss with
  | [.dat (.int j)] => -(2 ^ 62) ≤ j ∧ j < 2 ^ 62 ∧ Kc (rngD 0 j.toNat) (fun _ => True) ρ1
  | _ => False
def iRng1A (al : ATA) : AIt := fun st Kc => al st (kRng1 Kc)
@[reducible] def kRng2 (Kc : KI) : List Sl → List Res → Prop := fun ss ρ1 => match ss with
  | [.dat (.int i), .dat (.int j)] => (-(2 ^ 62) ≤ i ∧ i < 2 ^ 62 ∧ -(2 ^ 62) ≤ j ∧ j < 2 ^ 62) ∧ Kc (rngD i (j - i).toNat) (fun _ => True) ρ1
  | _ => False
def iRng2A (al : ATA) : AIt := fun st Kc => al st (kRng2 Kc)
def enD (l : List D) : List D := l.zipIdx.map fun p => .tup [.int (p.2 : Nat), p.1]
def iEnA (al : ATA) : AIt := fun st Kc => al st fun ss ρ1 => match ss with
  | [.dat (.tup l)] => Kc (enD l) (fun _ => True) ρ1
  | [s] => (match lsOf ρ1 s with
    | some l => Kc (enD l) (still s l) ρ1
    | none => False)
  | _ => False
def aLoop (g : ATG) (b : ATS) (gd : List Res → Prop) (A : AE) : List D → ASt → Prop
  | [], st => A.nx st
  | d :: r, st => g (.dat d) st fun st1 => b { A with nx := fun st2 => gd st2.ρ ∧ aLoop g b gd A r st2, ct := fun st2 => gd st2.ρ ∧ aLoop g b gd A r st2, bk := A.nx } st1
def aFor (it : AIt) (g : ATG) (b : ATS) : ATS := fun A st => it st fun items gd ρ1 => gd ρ1 ∧ aLoop g b gd A items ⟨st.δ, ρ1⟩
structure ItOk (K : PySem.W.Frag) (w1 : W) (J : It) (items : List D) (gd : List Res → Prop) : Prop where
  stop : ∀ w' ρ', Le w1 w' → RsR K w' ρ' → gd ρ' → J.stop items.length w'.H
  item : ∀ w' ρ' i d, Le w1 w' → RsR K w' ρ' → gd ρ' → items[i]? = some d → J.go i w'.H ∧ ∀ x H', J.yld i w'.H x H' → ∃ w'', Le w' w'' ∧ w''.H = H' ∧ RsR K w'' ρ' ∧ RV K w'' x d
def SimI (K : PySem.W.Frag) (w0 : W) (wi : TI) (it : AIt) : Prop := ∀ w st σ (R : It → Hp → Prop) Kc, Le w0 w → RsR K w st.ρ → RE K w st.δ σ → it st Kc →
  (∀ items gd ρ1 w1 J, Kc items gd ρ1 → Le w w1 → RsR K w1 ρ1 → ItOk K w1 J items gd → R J w1.H) → wi σ w.H R
section
variable {K : PySem.W.Frag} {w0 : W}
theorem ls_kind {w : W} {ρ : List Res} (r : RsR K w ρ) {v : V} {s : Sl} {l : List D} (h : RS K w v s) (e : lsOf ρ s = some l) :
    ∃ a, v = .ref a ∧ (∃ xs, SqL K w.H a xs) ∧ ∀ w' ρ', Le w w' → RsR K w' ρ' → still s l ρ' → ∃ xs, SqL K w'.H a xs ∧ RVs K w' xs l := by
  obtain ⟨a, xs, rfl, h1, h2⟩ := ls_of r h e
  refine ⟨a, rfl, ⟨xs, h1⟩, fun w' ρ' l1 r1 g => ?_⟩
  cases s with
  | dat d =>
    cases d <;> try (cases e; done)
    cases e
    cases (show RV K w (.ref a) _ from h) with
    | lst f q => exact ⟨_, (f.mono l1.kG l1.g1) _ fun _ => rfl, q.mono l1⟩
  | res k =>
    obtain ⟨b, hb, eb⟩ := h
    cases eb
    have hb' : w'.as[k]? = some a := by
      obtain ⟨m, em⟩ := l1.pre
      rw [em, List.getElem?_append_left (List.getElem?_eq_some_iff.mp hb).1]; exact hb
    rcases g with g | g
    · obtain ⟨n, ys, h3, h4⟩ := r1.at_ k a _ hb' g
      exact ⟨ys, SqL.of h3, h4⟩
    · have q := r1.at_ k a _ hb' g
      cases (show RV K w' (.ref a) _ from q) with
      | lst f q => exact ⟨_, f _ fun _ => rfl, q⟩
theorem it_list {w : W} {a : Addr} {l : List D} {gd : List Res → Prop} (h : ∀ w' ρ', Le w w' → RsR K w' ρ' → gd ρ' → ∃ xs, SqL K w'.H a xs ∧ RVs K w' xs l) : ItOk K w (Itl K a) l gd := by
  refine ⟨fun w' ρ' l1 r1 g => ?_, fun w' ρ' i d l1 r1 g e => ?_⟩
  · obtain ⟨xs, h1, h2⟩ := h w' ρ' l1 r1 g
    exact ⟨xs, h1, by rw [h2.len]; exact Nat.le_refl _⟩
  · obtain ⟨xs, h1, h2⟩ := h w' ρ' l1 r1 g
    obtain ⟨x, e1, r⟩ := h2.get e
    refine ⟨⟨xs, x, h1, e1⟩, fun y H' z => ?_⟩
    obtain ⟨rfl, z⟩ := z
    have := z xs h1
    rw [e1] at this
    cases this
    exact ⟨w', .refl w', rfl, r1, r⟩
theorem it_tup {w : W} {a : Addr} {l : List D} {gd : List Res → Prop} (h : ∀ w', Le w w' → ∃ xs, SqT K w'.H a xs ∧ RVs K w' xs l) : ItOk K w (Itt K a) l gd := by
  refine ⟨fun w' ρ' l1 r1 g => ?_, fun w' ρ' i d l1 r1 g e => ?_⟩
  · obtain ⟨xs, h1, h2⟩ := h w' l1
    exact ⟨xs, h1, by rw [h2.len]; exact Nat.le_refl _⟩
  · obtain ⟨xs, h1, h2⟩ := h w' l1
    obtain ⟨x, e1, r⟩ := h2.get e
    refine ⟨⟨xs, x, h1, e1⟩, fun y H' z => ?_⟩
    obtain ⟨rfl, z⟩ := z
    have := z xs h1
    rw [e1] at this
    cases this
    exact ⟨w', .refl w', rfl, r1, r⟩
theorem tup_stays {w : W} {v : V} {l : List D} (h : RS K w v (.dat (.tup l))) : ∃ a, v = .ref a ∧ ∀ w', Le w w' → ∃ xs, SqT K w'.H a xs ∧ RVs K w' xs l := by
  cases (show RV K w v _ from h) with
  | @tup a xs _ f q => exact ⟨a, rfl, fun w' l1 => ⟨xs, (f.mono l1.kG l1.g1) _ fun _ => rfl, q.mono l1⟩⟩
theorem it_str {w : W} {z : Str} : ItOk K w (Its z) (chD z) (fun _ => True) := by
  have hl : (chD z).length = z.cps.size := by unfold chD; rw [List.length_map, Array.length_toList]
  refine ⟨fun w' ρ' l1 r1 g => by rw [hl]; exact Nat.le_refl _, fun w' ρ' i d l1 r1 g e => ?_⟩
  unfold chD at e
  rw [List.getElem?_map] at e
  obtain ⟨c, e1, rfl⟩ := Option.map_eq_some_iff.mp e
  have e2 : z.cps[i]? = some c := by rw [← Array.getElem?_toList]; exact e1
  refine ⟨(Array.getElem?_eq_some_iff.mp e2).1, fun y H' h => ?_⟩
  obtain ⟨rfl, c', e3, rfl⟩ := h
  rw [e2] at e3
  cases e3
  exact ⟨w', .refl w', rfl, r1, .str _⟩
/-- over what a slot holds -/
theorem si_var {i : Nat} : SimI K w0 (iAny K (tVar i)) (iAnyA (aVar i)) := by
  intro w st σ R Kc l r e h k
  unfold iAnyA aVar at h
  split at h
  · rename_i s hs
    obtain ⟨v, h1, h2⟩ := e.at_ i s hs
    replace h2 := h2.nrm r
    revert h h2
    generalize nrm st.ρ s = s'
    intro h h2
    split at h
    · cases str_of h2
      exact .inr (.inr ⟨_, h1, _, rfl, k _ _ _ w _ h (.refl w) r it_str⟩)
    · obtain ⟨a, rfl, hs⟩ := tup_stays h2
      obtain ⟨xs, z, _⟩ := hs w (.refl w)
      exact .inr (.inl ⟨_, h1, a, rfl, ⟨xs, z⟩, k _ _ _ w _ h (.refl w) r (it_tup hs)⟩)
    · split at h
      · rename_i l' hl
        obtain ⟨a, rfl, z, hs⟩ := ls_kind r h2 hl
        exact .inl ⟨_, h1, a, rfl, z, k _ _ _ w _ h (.refl w) r (it_list hs)⟩
      · exact h.elim
  · exact h.elim
def kLst (Kc : KI) : AK := fun s ρ1 => match lsOf ρ1 s with
  | some l => Kc l (still s l) ρ1
  | none => False
def iLstA (a : ATE) : AIt := fun st Kc => a st (kLst Kc)
@[reducible] def kTup (Kc : KI) : AK := fun s ρ1 => match s with
  | .dat (.tup l) => Kc l (fun _ => True) ρ1
  | _ => False
def iTupA (a : ATE) : AIt := fun st Kc => a st (kTup Kc)
@[reducible] def kStr (Kc : KI) : AK := fun s ρ1 => match s with
  | .dat (.str z) => Kc (chD z) (fun _ => True) ρ1
  | _ => False
def iStrA (a : ATE) : AIt := fun st Kc => a st (kStr Kc)
theorem si_lst {t : TE} {a : ATE} (ha : SimE K w0 t a) : SimI K w0 (iAny K t) (iLstA a) := by
  intro w st σ R Kc l r e h k
  refine .inl (ha w st σ _ _ l r e h fun s ρ1 w1 v h1 l1 r1 q1 => ?_)
  unfold kLst at h1
  split at h1
  · rename_i l' hl
    obtain ⟨b, rfl, z, hs⟩ := ls_kind q1 r1 hl
    exact ⟨b, rfl, z, k _ _ _ w1 _ h1 l1 q1 (it_list hs)⟩
  · exact h1.elim
theorem si_tup {t : TE} {a : ATE} (ha : SimE K w0 t a) : SimI K w0 (iAny K t) (iTupA a) := by
  intro w st σ R Kc l r e h k
  refine .inr (.inl (ha w st σ _ _ l r e h fun s ρ1 w1 v h1 l1 r1 q1 => ?_))
  dsimp only [kTup] at h1
  split at h1
  · obtain ⟨b, rfl, hs⟩ := tup_stays r1
    obtain ⟨xs, z, _⟩ := hs w1 (.refl w1)
    exact ⟨b, rfl, ⟨xs, z⟩, k _ _ _ w1 _ h1 l1 q1 (it_tup hs)⟩
  · exact h1.elim
theorem si_str {t : TE} {a : ATE} (ha : SimE K w0 t a) : SimI K w0 (iAny K t) (iStrA a) := by
  intro w st σ R Kc l r e h k
  refine .inr (.inr (ha w st σ _ _ l r e h fun s ρ1 w1 v h1 l1 r1 q1 => ?_))
  dsimp only [kStr] at h1
  split at h1
  · cases str_of r1
    exact ⟨_, rfl, k _ _ _ w1 _ h1 l1 q1 it_str⟩
  · exact h1.elim
theorem it_rng {w : W} {lo : Int} {n : Nat} : ItOk K w (Itr lo n) (rngD lo n) (fun _ => True) := by
  have hl : (rngD lo n).length = n := by unfold rngD; rw [List.length_map, List.length_range]
  refine ⟨fun w' ρ' l1 r1 g => by rw [hl]; exact Nat.le_refl _, fun w' ρ' i d l1 r1 g e => ?_⟩
  have hi : i < n := by rw [← hl]; exact (List.getElem?_eq_some_iff.mp e).1
  unfold rngD at e
  rw [List.getElem?_map, List.getElem?_range hi] at e
  cases e
  refine ⟨hi, fun y H' h => ?_⟩
  obtain ⟨rfl, rfl⟩ := h
  exact ⟨w', .refl w', rfl, r1, .int _⟩
theorem si_rng1 {t : TA} {a : ATA} (ha : SimA K w0 t a) : SimI K w0 (iRng1 t) (iRng1A a) := by
  intro w st σ R Kc l r e h k
  refine ha w st σ _ _ l r e h fun ss ρ1 w1 vs h1 l1 r1 q1 => ?_
  dsimp only [kRng1] at h1
  split at h1
  · obtain ⟨x, rfl, r⟩ := one_of r1
    cases int_of r
    exact ⟨_, rfl, h1.1, h1.2.1, k _ _ _ w1 _ h1.2.2 l1 q1 it_rng⟩
  · exact h1.elim
theorem si_rng2 {t : TA} {a : ATA} (ha : SimA K w0 t a) : SimI K w0 (iRng2 t) (iRng2A a) := by
  intro w st σ R Kc l r e h k
  refine ha w st σ _ _ l r e h fun ss ρ1 w1 vs h1 l1 r1 q1 => ?_
  dsimp only [kRng2] at h1
  split at h1
  · cases r1 with
    | cons r1 t =>
      obtain ⟨x, rfl, r⟩ := one_of t
      cases int_of r1
      cases int_of r
      exact ⟨_, _, rfl, h1.1, k _ _ _ w1 _ h1.2 l1 q1 it_rng⟩
  · exact h1.elim
theorem enD_get {l : List D} {i : Nat} {d : D} (e : (enD l)[i]? = some d) : ∃ x, l[i]? = some x ∧ d = .tup [.int (i : Nat), x] := by
  unfold enD at e
  rw [List.getElem?_map] at e
  obtain ⟨p, e1, rfl⟩ := Option.map_eq_some_iff.mp e
  rw [List.getElem?_zipIdx] at e1
  obtain ⟨x, e2, rfl⟩ := Option.map_eq_some_iff.mp e1
  exact ⟨x, e2, by simp⟩
theorem en_item {w' : W} {ρ' : List Res} {i : Nat} {x : V} {d : D} {T : Addr} (r1 : RsR K w' ρ') (hT : w'.H T = none) (r : RV K w' x d) : ∃ w'', Le w' w'' ∧ w''.H = upd w'.H T (.tup [.int (i : Nat), x]) ∧ RsR K w'' ρ' ∧ RV K w'' (.ref T) (.tup [.int (i : Nat), d]) :=
  ⟨w'.fixed T _ hT, Le.fixed w' T _ hT, rfl, r1.fixed hT, new_tup hT (.cons (.int _) (.cons r .nil))⟩
theorem it_enum {w : W} {a : Addr} {l : List D} {gd : List Res → Prop} (h : ∀ w' ρ', Le w w' → RsR K w' ρ' → gd ρ' → ∃ xs, SqL K w'.H a xs ∧ RVs K w' xs l) : ItOk K w (Ite K a) (enD l) gd := by
  have hl : (enD l).length = l.length := by unfold enD; rw [List.length_map, List.length_zipIdx]
  refine ⟨fun w' ρ' l1 r1 g => ?_, fun w' ρ' i d l1 r1 g e => ?_⟩
  · obtain ⟨xs, h1, h2⟩ := h w' ρ' l1 r1 g
    exact ⟨xs, h1, by rw [hl, h2.len]; exact Nat.le_refl _⟩
  · obtain ⟨xs, h1, h2⟩ := h w' ρ' l1 r1 g
    obtain ⟨d', e', rfl⟩ := enD_get e
    obtain ⟨x, e1, r⟩ := h2.get e'
    refine ⟨⟨xs, x, h1, e1⟩, fun y H' z => ?_⟩
    obtain ⟨T, x', rfl, hT, rfl, z⟩ := z
    have := z xs h1
    rw [e1] at this
    cases this
    exact en_item r1 hT r
theorem it_enumT {w : W} {a : Addr} {l : List D} {gd : List Res → Prop} (h : ∀ w', Le w w' → ∃ xs, SqT K w'.H a xs ∧ RVs K w' xs l) : ItOk K w (IteT K a) (enD l) gd := by
  have hl : (enD l).length = l.length := by unfold enD; rw [List.length_map, List.length_zipIdx]
  refine ⟨fun w' ρ' l1 r1 g => ?_, fun w' ρ' i d l1 r1 g e => ?_⟩
  · obtain ⟨xs, h1, h2⟩ := h w' l1
    exact ⟨xs, h1, by rw [hl, h2.len]⟩
  · obtain ⟨xs, h1, h2⟩ := h w' l1
    obtain ⟨d', e', rfl⟩ := enD_get e
    obtain ⟨x, e1, r⟩ := h2.get e'
    refine ⟨⟨xs, x, h1, e1⟩, fun y H' z => ?_⟩
    obtain ⟨T, x', rfl, hT, rfl, z⟩ := z
    have := z xs h1
    rw [e1] at this
    cases this
    exact en_item r1 hT r
theorem si_enum {t : TA} {a : ATA} (ha : SimA K w0 t a) : SimI K w0 (iEnumA K t) (iEnA a) := by
  intro w st σ R Kc l r e h k
  refine ha w st σ _ _ l r e h fun ss ρ1 w1 vs h1 l1 r1 q1 => ?_
  split at h1
  · obtain ⟨x, rfl, r⟩ := one_of r1
    obtain ⟨b, rfl, hs⟩ := tup_stays r
    obtain ⟨xs, z, _⟩ := hs w1 (.refl w1)
    exact ⟨b, xs, rfl, .inr ⟨z, k _ _ _ w1 _ h1 l1 q1 (it_enumT hs)⟩⟩
  · obtain ⟨x, rfl, r⟩ := one_of r1
    split at h1
    · rename_i l' hl
      obtain ⟨b, rfl, ⟨xs, z⟩, hs⟩ := ls_kind q1 r hl
      exact ⟨b, xs, rfl, .inl ⟨z, k _ _ _ w1 _ h1 l1 q1 (it_enum hs)⟩⟩
    · exact h1.elim
  · exact h1.elim
theorem sim_for {wi : TI} {g : TG} {t : TS} {it : AIt} {ag : ATG} {b : ATS} (hi : SimI K w0 wi it) (hg : SimG K w0 g ag) (hb : SimS K w0 t b) : SimS K w0 (tFor wi g t) (aFor it ag b) := by
  intro w st σ D A l r e h k
  refine hi w st σ _ _ l r e h fun items gd ρ1 w1 J hk l1 r1 ok => ?_
  refine ⟨fun i m σ H => ∃ w' st', w'.H = H ∧ Le w1 w' ∧ RsR K w' st'.ρ ∧ RE K w' st'.δ σ ∧ i ≤ items.length ∧ m = items.length - i ∧ gd st'.ρ ∧ aLoop ag b gd A (items.drop i) st', ⟨items.length, w1, ⟨st.δ, ρ1⟩, rfl, .refl w1, r1, e.mono l1, Nat.zero_le _, by omega, hk.1, by rw [List.drop_zero]; exact hk.2⟩, ?_⟩
  rintro i m σ H ⟨w', st', rfl, l2, r2, e2, hi, hm, g2, lp⟩
  by_cases hlt : i < items.length
  · have hd := List.getElem?_eq_getElem hlt
    obtain ⟨go, yl⟩ := ok.item w' st'.ρ i _ l2 r2 g2 hd
    rw [List.drop_eq_getElem_cons hlt] at lp
    refine .inr ⟨go, fun σ' H' => ∃ w'' st'', w''.H = H' ∧ Le w1 w'' ∧ RsR K w'' st''.ρ ∧ RE K w'' st''.δ σ' ∧ gd st''.ρ ∧ aLoop ag b gd A (items.drop (i + 1)) st'', fun σ' H' ⟨w'', st'', z1, z2, z3, z4, z5, z6⟩ => ⟨items.length - (i + 1), by omega, w'', st'', z1, z2, z3, z4, hlt, rfl, z5, z6⟩, fun x H' y => ?_⟩
    obtain ⟨w3, l3, rfl, r3, rv⟩ := yl x H' y
    have L := l1.trans (l2.trans l3)
    refine hg w3 st' σ x _ _ _ (l.trans L) r3 (e2.mono l3) (show RS K w3 x (.dat _) from rv) lp fun st4 σ4 w4 h4 l4 r4 e4 => ?_
    have L4 := L.trans l4
    refine hb w4 st4 σ4 _ _ (l.trans L4) r4 e4 h4 ⟨fun st5 σ5 w5 h5 l5 r5 e5 => ⟨w5, st5, rfl, l2.trans (l3.trans (l4.trans l5)), r5, e5, h5.1, h5.2⟩, fun s ρ' w5 v h5 l5 => k.rt s ρ' w5 v h5 (L4.trans l5), fun st5 σ5 w5 h5 l5 r5 e5 => k.nx st5 σ5 w5 h5 (L4.trans l5) r5 e5, fun st5 σ5 w5 h5 l5 r5 e5 => ⟨w5, st5, rfl, l2.trans (l3.trans (l4.trans l5)), r5, e5, h5.1, h5.2⟩⟩
  · have hn : i = items.length := by omega
    subst hn
    rw [List.drop_length] at lp
    exact .inl ⟨ok.stop w' st'.ρ l2 r2 g2, k.nx st' σ w' lp (l1.trans l2) r2 e2⟩
/-- a while, by what holds at each turn -/
def aWhile (c : ATT) (b : ATS) : ATS := fun A st => ∃ I : Nat → ASt → Prop, (∃ m, I m st) ∧ ∀ m st, I m st → c st fun k ρ1 => if k = true then b { A with nx := fun st2 => ∃ m' < m, I m' st2, ct := fun st2 => ∃ m' < m, I m' st2, bk := A.nx } ⟨st.δ, ρ1⟩ else A.nx ⟨st.δ, ρ1⟩
theorem sim_while {c : TT} {t : TS} {ac : ATT} {b : ATS} (hc : SimT K w0 c ac) (hb : SimS K w0 t b) : SimS K w0 (tWhile c t) (aWhile ac b) := by
  intro w st σ D A l r e h k
  obtain ⟨I, ⟨m0, h0⟩, turn⟩ := h
  refine ⟨fun m σ H => ∃ w' st', w'.H = H ∧ Le w w' ∧ RsR K w' st'.ρ ∧ RE K w' st'.δ σ ∧ I m st', ⟨m0, w, st, rfl, .refl w, r, e, h0⟩, ?_⟩
  rintro m σ H ⟨w', st', rfl, l1, r1, e1, i1⟩
  refine hc w' st' σ _ _ (l.trans l1) r1 e1 (turn m st' i1) fun kk ρ1 w2 h2 l2 r2 => ?_
  split
  · rename_i hk
    rw [if_pos hk] at h2
    refine ⟨fun σ' H' => ∃ m' < m, ∃ w3 st3, w3.H = H' ∧ Le w w3 ∧ RsR K w3 st3.ρ ∧ RE K w3 st3.δ σ' ∧ I m' st3, fun σ' H' ⟨m', lt, z⟩ => ⟨m', lt, z⟩, ?_⟩
    have L := l1.trans l2
    refine hb w2 ⟨st'.δ, ρ1⟩ σ _ _ (l.trans L) r2 (e1.mono l2) h2 ⟨fun st5 σ5 w5 h5 l5 r5 e5 => ?_, fun s ρ' w5 v h5 l5 => k.rt s ρ' w5 v h5 (L.trans l5), fun st5 σ5 w5 h5 l5 r5 e5 => k.nx st5 σ5 w5 h5 (L.trans l5) r5 e5, fun st5 σ5 w5 h5 l5 r5 e5 => ?_⟩
    · obtain ⟨m', lt, i5⟩ := h5
      exact ⟨m', lt, w5, st5, rfl, L.trans l5, r5, e5, i5⟩
    · obtain ⟨m', lt, i5⟩ := h5
      exact ⟨m', lt, w5, st5, rfl, L.trans l5, r5, e5, i5⟩
  · rename_i hk
    rw [if_neg hk] at h2
    exact k.nx _ _ _ h2 (l1.trans l2) r2 (e1.mono l2)
end
end An

set_option Elab.async false
set_option linter.all false
set_option maxRecDepth 100000
namespace An
open PySem PySem.Spec PyProof.Rows L2 Ov
/-! #### comprehensions -/
def aWipe (δ : List (Option Sl)) : List Nat → List (Option Sl)
  | [] => δ
  | v :: vs => (aWipe δ vs).set v none
def aLcL (g : ATG) (t : ATT) (e : ATE) (δ' : List (Option Sl)) (m : Nat) (gd : List Res → Prop) (Kc : AK) : List D → List Res → Prop
  | [], ρ => Kc (.res m) ρ
  | d :: r, ρ => g (.dat d) ⟨δ', ρ⟩ fun st1 => t st1 fun b ρ2 => if b = true then e ⟨st1.δ, ρ2⟩ fun s ρ3 => frz ρ3 (nrm ρ3 s) fun x ρ4 => ∃ acc, ρ4[m]? = some (.lst acc) ∧ acc.length < sizeLine ∧
      gd (ρ4.set m (.lst (acc ++ [x]))) ∧ aLcL g t e δ' m gd Kc r (ρ4.set m (.lst (acc ++ [x]))) else gd ρ2 ∧ aLcL g t e δ' m gd Kc r ρ2
def aLc (it : AIt) (g : ATG) (t : ATT) (e : ATE) (vs : List Nat) : ATE := fun st Kc => it st fun items gd ρ1 => gd (ρ1 ++ [.lst []]) ∧ aLcL g t e (aWipe st.δ vs) ρ1.length gd Kc items (ρ1 ++ [.lst []])
def aYes : ATT := fun st Kc => Kc true st.ρ
section
variable {K : PySem.W.Frag} {w0 : W}
theorem sim_yes : SimT K w0 tYes aYes := fun w st σ Q Kc l r e h k => k _ _ w h (.refl w) r
theorem RE.wip {w : W} {δ : List (Option Sl)} {σ : L2.St} (r : RE K w δ σ) : ∀ vs : List Nat, RE K w (aWipe δ vs) (wipe σ vs)
  | [] => r
  | v :: vs => by
    have q := RE.wip r vs
    refine ⟨by show ((wipe σ vs).set v none).length = ((aWipe δ vs).set v none).length; rw [List.length_set, List.length_set]; exact q.len, fun i s e => ?_⟩
    have e' : ((aWipe δ vs).set v none)[i]? = some (some s) := e
    by_cases h : v = i
    · subst h
      rw [List.getElem?_set, if_pos rfl] at e'
      split at e' <;> cases e'
    · rw [List.getElem?_set_ne h] at e'
      obtain ⟨x, h1, h2⟩ := q.at_ i s e'
      exact ⟨x, by show ((wipe σ vs).set v none)[i]? = _; rw [List.getElem?_set_ne h]; exact h1, h2⟩
def Wip (g : TG) (vs : List Nat) : Prop := ∀ v σ H Q, g v σ H Q → g v σ H fun σ2 H2 => wipe σ2 vs = wipe σ vs ∧ Q σ2 H2
def Wips (g : TGs) (vs : List Nat) : Prop := ∀ v σ H Q, g v σ H Q → g v σ H fun σ2 H2 => wipe σ2 vs = wipe σ vs ∧ Q σ2 H2
theorem wipe_set {σ : L2.St} {i : Nat} {x : Option V} : ∀ {vs : List Nat}, i ∈ vs → wipe (σ.set i x) vs = wipe σ vs
  | v :: vs, h => by
    show (wipe (σ.set i x) vs).set v none = (wipe σ vs).set v none
    by_cases hm : i ∈ vs
    · rw [wipe_set hm]
    · rcases List.mem_cons.mp h with h | h
      · subst h
        have : ∀ us : List Nat, i ∉ us → wipe (σ.set i x) us = (wipe σ us).set i x := by
          intro us
          induction us with
          | nil => intro _; rfl
          | cons u us ih =>
            intro hu
            show (wipe (σ.set i x) us).set u none = ((wipe σ us).set u none).set i x
            rw [ih fun z => hu (List.mem_cons_of_mem _ z), List.set_comm _ _ fun z => hu (by rw [z]; exact List.mem_cons_self)]
        rw [this vs hm, List.set_set]
      · exact absurd h hm
theorem wip_name {i : Nat} {vs : List Nat} (h : i ∈ vs) : Wip (gName i) vs := fun v σ H Q q => ⟨wipe_set h, q⟩
theorem wips_nil {vs : List Nat} : Wips gNil vs := fun v σ H Q q => ⟨q.1, rfl, q.2⟩
theorem wips_cons {i : Nat} {gs : TGs} {vs : List Nat} (h : i ∈ vs) (h2 : Wips gs vs) : Wips (gCons (gName i) gs) vs := by
  intro v σ H Q q
  obtain ⟨x, r, e, q⟩ := q
  refine ⟨x, r, e, ?_⟩
  have z := h2 r (σ.set i (some x)) H Q q
  rw [wipe_set h] at z
  exact z
theorem wip_tup {n : Nat} {gs : TGs} {vs : List Nat} (h2 : Wips gs vs) : Wip (gTup K n gs) vs := by
  intro v σ H Q q
  obtain ⟨a, xs, e, hs, hn, q⟩ := q
  exact ⟨a, xs, e, hs, hn, h2 xs σ H Q q⟩
theorem wipe_idem (σ : L2.St) : ∀ vs : List Nat, wipe (wipe σ vs) vs = wipe σ vs := by
  have key : ∀ (us : List Nat) (τ : L2.St), (∀ u ∈ us, u < τ.length → τ[u]? = some none) → wipe τ us = τ := by
    intro us
    induction us with
    | nil => intro τ _; rfl
    | cons u us ih =>
      intro τ h
      show (wipe τ us).set u none = τ
      rw [ih τ fun x hx => h x (List.mem_cons_of_mem _ hx)]
      apply List.ext_getElem?
      intro j
      rw [List.getElem?_set]
      split
      · rename_i e
        subst e
        split
        · rename_i hl; rw [h u List.mem_cons_self hl]
        · rename_i hl; rw [List.getElem?_eq_none (by omega)]
      · rfl
  intro vs
  refine key vs _ fun u hu hl => ?_
  induction vs with
  | nil => cases hu
  | cons v vs ih =>
    show ((wipe σ vs).set v none)[u]? = some none
    rw [List.getElem?_set]
    split
    · rename_i e; subst e; rw [if_pos (by rw [wipe_length]; rw [wipe_length] at hl; exact hl)]
    · rename_i e
      rcases List.mem_cons.mp hu with z | z
      · exact absurd z.symm e
      · exact ih z (by rw [wipe_length]; rw [wipe_length] at hl; exact hl)
theorem sim_lc {wi : TI} {g : TG} {tt : TT} {te : TE} {it : AIt} {ag : ATG} {att : ATT} {ae : ATE} {vs : List Nat} (hi : SimI K w0 wi it) (hg : SimG K w0 g ag) (hw : Wip g vs) (ht : SimT K w0 tt att) (he : SimE K w0 te ae) : SimE K w0 (tLc wi g tt te vs) (aLc it ag att ae vs) := by
  intro w st σ Q Kc l r e h k
  refine hi w st σ _ _ l r e h fun items gd ρ1 w1 J hk l1 r1 ok => ?_
  intro p hp
  have z0 := new_res (x := .lst []) hp r1 (new_lst hp (xs := []) .nil)
  have LG := Le.grown w1 p (.lst []) hp
  refine ⟨fun i m H => ∃ w' ρ', w'.H = H ∧ Le (w1.grown p (.lst []) hp) w' ∧ RsR K w' ρ' ∧ i ≤ items.length ∧ m = items.length - i ∧ gd ρ' ∧ aLcL ag att ae (aWipe st.δ vs) ρ1.length gd Kc (items.drop i) ρ',
    ⟨items.length, w1.grown p (.lst []) hp, _, rfl, .refl _, z0.2, Nat.zero_le _, by omega, hk.1, by rw [List.drop_zero]; exact hk.2⟩, ?_⟩
  have asp : ∀ {w' : W}, Le (w1.grown p (.lst []) hp) w' → w'.as[ρ1.length]? = some p := fun {w'} l' => by
    obtain ⟨m, em⟩ := l'.pre
    have e0 : (w1.grown p (.lst []) hp).as[ρ1.length]? = some p := by
      show (w1.as ++ [p])[ρ1.length]? = some p
      rw [r1.len, List.getElem?_append_right (Nat.le_refl _), Nat.sub_self]; rfl
    rw [em, List.getElem?_append_left (List.getElem?_eq_some_iff.mp e0).1]; exact e0
  rintro i m H ⟨w', ρ', rfl, l2, r2, hil, hm, g2, lp⟩
  have l12 := LG.trans l2
  by_cases hlt : i < items.length
  · have hd := List.getElem?_eq_getElem hlt
    obtain ⟨go, yl⟩ := ok.item w' ρ' i _ l12 r2 g2 hd
    rw [List.drop_eq_getElem_cons hlt] at lp
    refine .inr ⟨go, fun H' => ∃ w'' ρ'', w''.H = H' ∧ Le (w1.grown p (.lst []) hp) w'' ∧ RsR K w'' ρ'' ∧ gd ρ'' ∧ aLcL ag att ae (aWipe st.δ vs) ρ1.length gd Kc (items.drop (i + 1)) ρ'', fun H' ⟨w'', ρ'', z1, z2, z3, z4, z5⟩ => ⟨items.length - (i + 1), by omega, w'', ρ'', z1, z2, z3, hlt, rfl, z4, z5⟩, fun x H' y => ?_⟩
    obtain ⟨w3, l3, rfl, r3, rv⟩ := yl x H' y
    have L := l1.trans (l12.trans l3)
    have e3 : RE K w3 (aWipe st.δ vs) (wipe σ vs) := (e.mono L).wip vs
    have q := hw x (wipe σ vs) w3.H _ (hg w3 ⟨aWipe st.δ vs, ρ'⟩ (wipe σ vs) x _ (fun σ2 H2 => tt σ2 H2 fun b H3 => if b = true then te σ2 H3 fun y H4 => ∃ acc, H4 p = some (.lst acc) ∧ acc.length < sizeLine ∧ (∃ w'' ρ'', w''.H = upd H4 p (.lst (acc ++ [y])) ∧ Le (w1.grown p (.lst []) hp) w'' ∧ RsR K w'' ρ'' ∧ gd ρ'' ∧ aLcL ag att ae (aWipe st.δ vs) ρ1.length gd Kc (items.drop (i + 1)) ρ'') else ∃ w'' ρ'', w''.H = H3 ∧ Le (w1.grown p (.lst []) hp) w'' ∧ RsR K w'' ρ'' ∧ gd ρ'' ∧ aLcL ag att ae (aWipe st.δ vs) ρ1.length gd Kc (items.drop (i + 1)) ρ'') _ (l.trans L) r3 e3 (show RS K w3 x (.dat _) from rv) lp ?_)
    · rw [wipe_idem] at q
      exact q
    intro st4 σ4 w4 h4 l4 r4 e4
    refine ht w4 st4 σ4 _ _ (l.trans (L.trans l4)) r4 e4 h4 fun b ρ5 w5 h5 l5 r5 => ?_
    have L5 := L.trans (l4.trans l5)
    have LP5 := l2.trans (l3.trans (l4.trans l5))
    split
    · rename_i hb
      rw [if_pos hb] at h5
      refine he w5 ⟨st4.δ, ρ5⟩ σ4 _ _ (l.trans L5) r5 (e4.mono l5) h5 fun s ρ6 w6 v h6 l6 r6 q6 => ?_
      obtain ⟨d, ρ7, w7, h7, l7, e7, r7, q7⟩ := sim_frz q6 (r6.nrm q6) h6
      obtain ⟨acc, ha, hal, hgd, hrest⟩ := h7
      have hp7 := asp (LP5.trans (l6.trans l7))
      obtain ⟨ng, xs, hx, qx⟩ := q7.at_ _ p _ hp7 ha
      rw [← e7]
      have hR : RR K (w7.wrote p (.lst (xs ++ [v])) (as_mem hp7)) p (.lst (acc ++ [d])) := ⟨ng, _, upd_same, (qx.app (.cons r7 .nil)).mono (Le.wrote w7 p _ _ ng)⟩
      exact ⟨xs, hx, by rw [qx.len]; exact hal, w7.wrote p _ (as_mem hp7), _, rfl, LP5.trans (l6.trans (l7.trans (Le.wrote w7 p _ _ ng))), q7.wrote hp7 ng hR, hgd, hrest⟩
    · rename_i hb
      rw [if_neg hb] at h5
      exact ⟨w5, ρ5, rfl, LP5, r5, h5.1, h5.2⟩
  · have hn : i = items.length := by omega
    subst hn
    rw [List.drop_length] at lp
    exact .inl ⟨ok.stop w' ρ' l12 r2 g2, k _ _ w' _ lp (l1.trans l12) ⟨p, asp l2, rfl⟩ r2⟩
end
end An

set_option Elab.async false
set_option linter.all false
set_option maxRecDepth 100000
namespace An
open PySem PySem.Spec PyProof.Rows L2 Ov
/-! #### errors, objects, methods -/
@[reducible] def kOne (Kc : Sl → List Res → Prop) : List Sl → List Res → Prop := fun ss ρ1 => match ss with
  | [s] => Kc s ρ1
  | _ => False
def aRaise (C : Addr) (fn : Str) (X : XA) (al : ATA) : ATS := fun _ st => al st (kOne fun s ρ1 => frz ρ1 s fun d ρ2 => X C fn d ρ2)
def fldOf (C : Addr) (ρ : List Res) : Sl → Option (List (Str × D))
  | .dat (.obj C' fs) => if C' = C then some fs else none
  | .res k => match ρ[k]? with
    | some (.ins C' fs) => if C' = C then some fs else none
    | _ => none
  | _ => none
def kFld (C : Addr) (f : Str) (Kc : AK) : AK := fun s ρ1 => match (fldOf C ρ1 s).bind (fun fs => fs.lookup f) with
  | some d => Kc (.dat d) ρ1
  | none => False
def aFld (C : Addr) (f : Str) (a : ATE) : ATE := fun st Kc => a st (kFld C f Kc)
def putFD (f : Str) (v : D) : List (Str × D) → List (Str × D)
  | [] => [(f, v)]
  | (g, x) :: r => if g = f then (g, v) :: r else (g, x) :: putFD f v r
def kSFld (C : Addr) (f : Str) (K : List Res → Prop) (o : Sl) (d : D) (ρ3 : List Res) : Prop := match o with
  | .res k => (match ρ3[k]? with
    | some (.ins C' fs) => C' = C ∧ fs.length < 1000 ∧ K (ρ3.set k (.ins C (putFD f d fs)))
    | _ => False)
  | _ => False
def asFld (C : Addr) (f : Str) (ao av : ATE) : ATS := fun A st => av st fun y ρ1 => ao ⟨st.δ, ρ1⟩ fun o ρ2 => frz ρ2 (nrm ρ2 y) fun d ρ3 => kSFld C f (fun ρ4 => A.nx ⟨st.δ, ρ4⟩) (nrm ρ3 o) d ρ3
section
variable {K : PySem.W.Frag} {w0 : W}
theorem raiseQ {D : Ends} {σ : L2.St} {H : Hp} {C : Addr} {fn : Str} {Wx : WX} {ta : TA} (h : ta σ H fun vs H1 => ∃ v, vs = [v] ∧ ∀ d, H1 d = none → Wx (.ref C) (some d) σ (upd H1 d (.xd [(fn, v)]))) : tRaiseE C fn Wx ta D σ H := h
theorem isLst {H : Hp} {p : Addr} {xs : List V} (h : H p = some (.lst xs)) : tyV K "list" (.ref p) H := Or.inl ⟨rfl, _, Or.inl (Or.inl h)⟩
theorem sim_raise {C : Addr} {fn : Str} {E : XK} {X : XA} {t : TA} {a : ATA} (hX : XOk K w0 E X) (ha : SimA K w0 t a) : SimS K w0 (tRaiseE C fn (fun cls d _ H => E cls d H) t) (aRaise C fn X a) := by
  intro w st σ D A l r e h k
  refine raiseQ (ha w st σ _ _ l r e h fun ss ρ1 w1 vs h1 l1 r1 q1 => ?_)
  dsimp only [kOne] at h1
  split at h1
  · obtain ⟨v, rfl, rv⟩ := one_of r1
    obtain ⟨d, ρ2, w2, h2, l2, e2, r2, q2⟩ := sim_frz q1 rv h1
    refine ⟨v, rfl, fun dd hd => ?_⟩
    rw [← e2] at hd ⊢
    exact hX C fn d ρ2 (w2.fixed dd _ hd) dd v h2 (l.trans (l1.trans (l2.trans (Le.fixed _ _ _ _)))) (q2.fixed hd) upd_same (r2.mono (Le.fixed _ _ _ _))
  · exact h1.elim
theorem fld_of {C : Addr} {w : W} {ρ : List Res} (r : RsR K w ρ) {v : V} {s : Sl} {fs : List (Str × D)} (h : RS K w v s) (e : fldOf C ρ s = some fs) : ∃ a dx xs, v = .ref a ∧ w.H a = some (.ins C dx xs) ∧ RVf K w xs fs := by
  unfold fldOf at e
  split at e
  · split at e
    · rename_i hC
      subst hC
      cases e
      cases (show RV K w v _ from h) with
      | obj g h1 q => exact ⟨_, _, _, rfl, h1, q⟩
    · cases e
  · split at e
    · rename_i hk
      split at e
      · rename_i hC
        subst hC
        cases e
        obtain ⟨a, ha, rfl⟩ := h
        obtain ⟨n, dx, xs, h1, h2⟩ := r.at_ _ a _ ha hk
        exact ⟨a, dx, xs, rfl, h1, h2⟩
      · cases e
    · cases e
  · cases e
theorem RVf.look {w : W} : ∀ {xs : List (Str × V)} {fs : List (Str × D)} {f : Str} {d : D}, RVf K w xs fs → fs.lookup f = some d → ∃ x, xs.lookup f = some x ∧ RV K w x d
  | _, _, _, _, .nil, e => by cases e
  | _, _, f, d, @RVf.cons _ _ k x d' xs ds r t, e => by
    rw [List.lookup_cons] at e ⊢
    split at e
    · cases e; exact ⟨x, rfl, r⟩
    · exact RVf.look t e
theorem RVf.lookN {w : W} : ∀ {xs : List (Str × V)} {fs : List (Str × D)} {f : Str}, RVf K w xs fs → fs.lookup f = none → xs.lookup f = none
  | _, _, _, .nil, e => rfl
  | _, _, f, @RVf.cons _ _ k x d' xs ds r t, e => by
    rw [List.lookup_cons] at e ⊢
    split at e
    · cases e
    · exact RVf.lookN t e
theorem RVf.len {w : W} : ∀ {xs : List (Str × V)} {fs : List (Str × D)}, RVf K w xs fs → xs.length = fs.length
  | _, _, .nil => rfl
  | _, _, .cons _ t => by rw [List.length_cons, List.length_cons, RVf.len t]
theorem RVf.put {w : W} {v : V} {d : D} (hv : RV K w v d) (f : Str) : ∀ {xs : List (Str × V)} {fs : List (Str × D)}, RVf K w xs fs → RVf K w (putF f v xs) (putFD f d fs)
  | _, _, .nil => .cons hv .nil
  | _, _, @RVf.cons _ _ k x d' xs ds r t => by
    unfold putF putFD
    split
    · exact .cons hv t
    · exact .cons r (RVf.put hv f t)
theorem sim_fld {C : Addr} {f : Str} {t : TE} {a : ATE} (ha : SimE K w0 t a) : SimE K w0 (tFldC C f t) (aFld C f a) := by
  intro w st σ Q Kc l r e h k
  refine ha w st σ _ _ l r e h fun s ρ1 w1 v h1 l1 r1 q1 => ?_
  unfold kFld at h1
  split at h1
  · rename_i d hd
    obtain ⟨fs, e1, e2⟩ := Option.bind_eq_some_iff.mp hd
    obtain ⟨b, dx, xs, rfl, hx, q⟩ := fld_of q1 r1 e1
    obtain ⟨x, e3, rv⟩ := q.look e2
    exact ⟨b, dx, xs, x, rfl, hx, e3, k _ _ w1 _ h1 l1 rv q1⟩
  · exact h1.elim
theorem sim_sfld {C : Addr} {f : Str} {to tv : TE} {ao av : ATE} (ho : SimE K w0 to ao) (hv : SimE K w0 tv av) : SimS K w0 (sFldC C f to tv) (asFld C f ao av) := by
  intro w st σ D A l r e h k
  refine hv w st σ _ _ l r e h fun y ρ1 w1 v h1 l1 r1 q1 => ?_
  refine ho w1 ⟨st.δ, ρ1⟩ σ _ _ (l.trans l1) q1 (e.mono l1) h1 fun o ρ2 w2 ov h2 l2 r2 q2 => ?_
  obtain ⟨d, ρ3, w3, h3, l3, e3, r3, q3⟩ := sim_frz q2 ((r1.mono l2).nrm q2) h2
  rw [← e3]
  have ro := (r2.mono l3).nrm q3
  revert ro h3
  generalize nrm ρ3 o = o'
  intro h3 ro
  unfold kSFld at h3
  split at h3
  · rename_i kk
    split at h3
    · rename_i C' fs hk
      obtain ⟨rfl, hl, h3⟩ := h3
      obtain ⟨a, ha, rfl⟩ := ro
      obtain ⟨ng, dx, xs, hx, qx⟩ := q3.at_ kk a _ ha hk
      have L2 := Le.wrote w3 a (.ins C' dx (putF f v xs)) (as_mem ha) ng
      have hR : RR K (w3.wrote a (.ins C' dx (putF f v xs)) (as_mem ha)) a (.ins C' (putFD f d fs)) := ⟨ng, dx, _, upd_same, (RVf.put r3 f qx).mono L2⟩
      have L := l1.trans (l2.trans (l3.trans L2))
      exact ⟨a, dx, xs, rfl, hx, by rw [qx.len]; exact hl, k.nx _ _ (w3.wrote a _ (as_mem ha)) h3 L (q3.wrote ha ng hR) (e.mono L)⟩
    · exact h3.elim
  · exact h3.elim
/-! calls of methods and the like: an object first -/
def aObj (C : Addr) (m : Str) (s : Sl) (ρ : List Res) : Prop := ∃ fs, fldOf C ρ s = some fs ∧ fs.lookup m = none
def aMeth (C : Addr) (m : Str) (b : List Bool) (F : AF) (X : XA) (a : ATE) (al : ATA) : ATE := fun st Kc => a st fun s ρ1 => aObj C m s ρ1 ∧ al ⟨st.δ, ρ1⟩ fun ss ρ2 => aFn (true :: b) F X (nrm ρ2 s :: ss) ρ2 Kc
theorem sim_meth {C : Addr} {m : Str} {b : List Bool} {F : AF} {E : XK} {X : XA} {t : TE} {tl : TA} {a : ATE} {al : ATA} (hX : XOk K w0 E X) (ha : SimE K w0 t a) (hl : SimA K w0 tl al) : SimE K w0 (tMeth C m (Conc K F) [] E t tl) (aMeth C m b F X a al) := by
  intro w st σ Q Kc l r e h k
  refine ha w st σ _ _ l r e h fun s ρ1 w1 v h1 l1 r1 q1 => ?_
  obtain ⟨⟨fs, e1, e2⟩, h1⟩ := h1
  obtain ⟨b', dx, xs, rfl, hx, q⟩ := fld_of q1 r1 e1
  refine ⟨b', dx, xs, rfl, hx, q.lookN e2, ?_⟩
  refine hl w1 ⟨st.δ, ρ1⟩ σ _ _ (l.trans l1) q1 (e.mono l1) h1 fun ss ρ2 w2 vs h2 l2 r2 q2 => ?_
  show Conc K F (_ :: (vs ++ [])) w2.H Q E
  rw [List.append_nil]
  exact call_ok (l.trans (l1.trans l2)) hX q2 (.cons ((r1.mono l2).nrm q2) r2) h2 fun s ρ' w' v h3 l3 r3 q3 => k _ _ _ _ h3 (l1.trans (l2.trans l3)) r3 q3
theorem sim_methS {C : Addr} {m : Str} {b : List Bool} {F : AF} {E : XK} {X : XA} {t : TE} {tl : TA} {a : ATE} {al : ATA} (hX : XOk K w0 E X) (ha : SimE K w0 t a) (hl : SimA K w0 tl al) : SimE K w0 (tMethS C m (Conc K F) (fun _ => E) t tl) (aMeth C m b F X a al) := by
  intro w st σ Q Kc l r e h k
  refine ha w st σ _ _ l r e h fun s ρ1 w1 v h1 l1 r1 q1 => ?_
  obtain ⟨⟨fs, e1, e2⟩, h1⟩ := h1
  obtain ⟨b', dx, xs, rfl, hx, q⟩ := fld_of q1 r1 e1
  refine ⟨b', dx, xs, rfl, hx, q.lookN e2, ?_⟩
  refine hl w1 ⟨st.δ, ρ1⟩ σ _ _ (l.trans l1) q1 (e.mono l1) h1 fun ss ρ2 w2 vs h2 l2 r2 q2 => ?_
  exact call_ok (l.trans (l1.trans l2)) hX q2 (.cons ((r1.mono l2).nrm q2) r2) h2 fun s ρ' w' v h3 l3 r3 q3 => k _ _ _ _ h3 (l1.trans (l2.trans l3)) r3 q3
def aProp (C : Addr) (F : AF) (X : XA) (a : ATE) : ATE := fun st Kc => a st fun s ρ1 => (∃ fs, fldOf C ρ1 s = some fs) ∧ aFn [true] F X [nrm ρ1 s] ρ1 Kc
theorem sim_prop {C : Addr} {F : AF} {E : XK} {X : XA} {t : TE} {a : ATE} (hX : XOk K w0 E X) (ha : SimE K w0 t a) : SimE K w0 (tProp C (Conc K F) [] E t) (aProp C F X a) := by
  intro w st σ Q Kc l r e h k
  refine ha w st σ _ _ l r e h fun s ρ1 w1 v h1 l1 r1 q1 => ?_
  obtain ⟨⟨fs, e1⟩, h1⟩ := h1
  obtain ⟨b', dx, xs, rfl, hx, q⟩ := fld_of q1 r1 e1
  refine ⟨b', dx, xs, rfl, hx, ?_⟩
  exact call_ok (l.trans l1) hX q1 (.cons (r1.nrm q1) .nil) h1 fun s ρ' w' v h3 l3 r3 q3 => k _ _ _ _ h3 (l1.trans l3) r3 q3
/-- an object meets something: o[i], x in o, o == p -/
def SimOX (K : PySem.W.Frag) (w0 : W) (r : R2) (f : AOp) : Prop := ∀ w ρ x y s u (Q : VK) (Kc : AK), Le w0 w → RsR K w ρ → RS K w x s → RS K w y u → f s u ρ Kc →
  (∀ s' ρ' w' v, Kc s' ρ' → Le w w' → RS K w' v s' → RsR K w' ρ' → Q v w'.H) → r x y w.H Q
theorem sim_opX {r : R2} {f : AOp} {ta tb : TE} {a b : ATE} (hr : SimOX K w0 r f) (ha : SimE K w0 ta a) (hb : SimE K w0 tb b) : SimE K w0 (tOp r ta tb) (aOp f a b) := by
  intro w st σ Q Kc l rr e h k
  refine ha w st σ _ _ l rr e h fun s ρ1 w1 v h1 l1 r1 q1 => ?_
  refine hb w1 ⟨st.δ, ρ1⟩ σ _ _ (l.trans l1) q1 (e.mono l1) h1 fun u ρ2 w2 y h2 l2 r2 q2 => ?_
  exact hr w2 ρ2 v y _ u _ _ (l.trans (l1.trans l2)) q2 ((r1.mono l2).nrm q2) r2 h2 fun s' ρ' w' v' h3 l3 r3 q3 => k _ _ _ _ h3 (l1.trans (l2.trans l3)) r3 q3
def fIxO (C : Addr) (F : AF) (X : XA) : AOp := fun s u ρ Kc => (∃ fs, fldOf C ρ s = some fs) ∧ aFn [true, false] F X [s, u] ρ Kc
theorem so_ixO {C : Addr} {F : AF} {E : XK} {X : XA} (hX : XOk K w0 E X) : SimOX K w0 (rIxO C (Conc K F) E) (fIxO C F X) := by
  intro w ρ x y s u Q Kc l r rx ry h k
  obtain ⟨⟨fs, e1⟩, h1⟩ := h
  obtain ⟨b', dx, xs, rfl, hx, q⟩ := fld_of r rx e1
  exact ⟨b', dx, xs, rfl, hx, call_ok l hX r (.cons rx (.cons ry .nil)) h1 k⟩
def fInO (C : Addr) (F : AF) (X : XA) (neg : Bool) : AOp := fun s u ρ Kc => (∃ fs, fldOf C ρ u = some fs) ∧ aFn [true, false] F X [u, s] ρ (kTest fun b ρ' => Kc (.dat (.bl (if neg then !b else b))) ρ')
theorem so_inO {C : Addr} {F : AF} {E : XK} {X : XA} {neg : Bool} (hX : XOk K w0 E X) : SimOX K w0 (rInO C (Conc K F) E neg) (fInO C F X neg) := by
  intro w ρ x y s u Q Kc l r rx ry h k
  obtain ⟨⟨fs, e1⟩, h1⟩ := h
  obtain ⟨b', dx, xs, rfl, hx, q⟩ := fld_of r ry e1
  refine ⟨b', dx, xs, rfl, hx, call_ok l hX r (.cons ry (.cons rx .nil)) h1 fun s' ρ' w' v h3 l3 r3 q3 => ?_⟩
  dsimp only [kTest] at h3
  split at h3
  · cases bl_of r3
    exact ⟨_, rfl, k _ _ w' _ h3 l3 (show RV K w' _ _ from .bl _) q3⟩
  · exact h3.elim
def fCmpO (C : Addr) (F : AF) (X : XA) : AOp := fun s u ρ Kc => (∃ fs, fldOf C ρ s = some fs) ∧ (∃ fs, fldOf C ρ u = some fs) ∧ aFn [true, true] F X [s, u] ρ (kTest fun b ρ' => Kc (.dat (.bl b)) ρ')
theorem so_cmpO {C : Addr} {F : AF} {E : XK} {X : XA} (hX : XOk K w0 E X) : SimOX K w0 (rCmpO C (Conc K F) E) (fCmpO C F X) := by
  intro w ρ x y s u Q Kc l r rx ry h k
  obtain ⟨⟨fs, e1⟩, ⟨gs, e2⟩, h1⟩ := h
  obtain ⟨b', dx, xs, rfl, hx, q⟩ := fld_of r rx e1
  obtain ⟨c', dy, ys, rfl, hy, q'⟩ := fld_of r ry e2
  refine ⟨b', dx, xs, c', dy, ys, rfl, rfl, hx, hy, call_ok l hX r (.cons rx (.cons ry .nil)) h1 fun s' ρ' w' v h3 l3 r3 q3 => ?_⟩
  dsimp only [kTest] at h3
  split at h3
  · cases bl_of r3
    exact ⟨⟨_, rfl⟩, k _ _ w' _ h3 l3 (show RV K w' _ _ from .bl _) q3⟩
  · exact h3.elim
/-- len of an object -/
@[reducible] def kNat (Kc : AK) : AK := fun s' ρ' => match s' with
  | .dat (.int i) => ∃ n : Nat, i = n ∧ n ≤ sizeLine ∧ Kc (.dat (.int n)) ρ'
  | _ => False
def aLenO (C : Addr) (F : AF) (X : XA) (l : ATA) : ATE := fun st Kc => l st (kOne fun s ρ1 => (∃ fs, fldOf C ρ1 s = some fs) ∧ aFn [true] F X [s] ρ1 (kNat Kc))
theorem sim_lenO {C : Addr} {F : AF} {E : XK} {X : XA} {t : TA} {a : ATA} (hX : XOk K w0 E X) (ha : SimA K w0 t a) : SimE K w0 (tCB (cLenO C (Conc K F) E) t) (aLenO C F X a) := by
  intro w st σ Q Kc l r e h k
  refine ha w st σ _ _ l r e h fun ss ρ1 w1 vs h1 l1 r1 q1 => ?_
  dsimp only [kOne] at h1
  split at h1
  · obtain ⟨v, rfl, rv⟩ := one_of r1
    obtain ⟨⟨fs, e1⟩, h1⟩ := h1
    obtain ⟨b', dx, xs, rfl, hx, q⟩ := fld_of q1 rv e1
    refine ⟨b', dx, xs, rfl, hx, call_ok (l.trans l1) hX q1 (.cons rv .nil) h1 fun s' ρ' w' v h3 l3 r3 q3 => ?_⟩
    dsimp only [kNat] at h3
    split at h3
    · cases int_of r3
      obtain ⟨n, rfl, hn, h3⟩ := h3
      exact ⟨n, rfl, hn, k _ _ w' _ h3 (l1.trans l3) (show RV K w' _ _ from .int _) q3⟩
    · exact h3.elim
  · exact h1.elim
/-- o[i] = v of an own class -/
def aSubO (C : Addr) (F : AF) (X : XA) (ao ai : ATE) : ATG := fun s st Kc => ao st fun o ρ1 => ai ⟨st.δ, ρ1⟩ fun i ρ2 => (∃ fs, fldOf C ρ2 (nrm ρ2 o) = some fs) ∧ aFn [true, false, false] F X [nrm ρ2 o, i, nrm ρ2 s] ρ2 fun _ ρ3 => Kc ⟨st.δ, ρ3⟩
theorem sim_subO {C : Addr} {F : AF} {E : XK} {X : XA} {to ti : TE} {ao ai : ATE} (hX : XOk K w0 E X) (h1 : SimE K w0 to ao) (h2 : SimE K w0 ti ai) : SimG K w0 (gSub to ti (rSetO C (Conc K F) E)) (aSubO C F X ao ai) := by
  intro w st σ v s Q Kc l r e h hk k
  refine h1 w st σ _ _ l r e hk fun o ρ1 w1 ov h1' l1 r1 q1 => ?_
  refine h2 w1 ⟨st.δ, ρ1⟩ σ _ _ (l.trans l1) q1 (e.mono l1) h1' fun i ρ2 w2 iv h2' l2 r2 q2 => ?_
  obtain ⟨⟨fs, e1⟩, h3⟩ := h2'
  have ro := (r1.mono l2).nrm q2
  obtain ⟨b', dx, xs, rfl, hx, q⟩ := fld_of q2 ro e1
  have L := l1.trans l2
  exact ⟨b', dx, xs, rfl, hx, call_ok (l.trans L) hX q2 (.cons ro (.cons r2 (.cons ((h.mono L).nrm q2) .nil))) h3 fun s' ρ' w' v' h4 l4 r4 q4 => k _ _ w' h4 (L.trans l4) q4 (e.mono (L.trans l4))⟩
/-- a new object -/
def aMake (C : Addr) (b : List Bool) (F : AF) (X : XA) (l : ATA) : ATE := fun st Kc => l st fun ss ρ1 => aFn (true :: b) F X (.res ρ1.length :: ss) (ρ1 ++ [.ins C []]) fun s ρ2 => s = .dat .non ∧ Kc (.res ρ1.length) ρ2
theorem make_ok {C : Addr} {b : List Bool} {F : AF} {E : XK} {X : XA} {ss : List Sl} {ρ1 : List Res} {w : W} {vs : List V} {Q : VK} {Kc : AK} (hX : XOk K w0 E X) (l : Le w0 w) (r : RsR K w ρ1) (rs : RSs K w vs ss)
    (h : aFn (true :: b) F X (.res ρ1.length :: ss) (ρ1 ++ [.ins C []]) fun s ρ2 => s = .dat .non ∧ Kc (.res ρ1.length) ρ2) (k : ∀ s ρ' w' v, Kc s ρ' → Le w w' → RS K w' v s → RsR K w' ρ' → Q v w'.H) :
    ∀ x dx, w.H x = none → w.H dx = none → dx ≠ x → Conc K F (.ref x :: vs) (upd (upd w.H dx (.own x)) x (.ins C dx [])) (fun v H2 => v = .non ∧ Q (.ref x) H2) E := by
  intro x dx hx hdx ne
  have L1 := Le.fixed w dx (.own x) hdx
  have hx' : (w.fixed dx (.own x) hdx).H x = none := by show upd w.H dx _ x = none; rw [upd_ne (Ne.symm ne)]; exact hx
  have L2 := Le.grown (w.fixed dx (.own x) hdx) x (.ins C dx []) hx'
  have hR : RR K ((w.fixed dx (.own x) hdx).grown x (.ins C dx []) hx') x (.ins C []) := ⟨(show ¬ (w.fixed dx (.own x) hdx).G x from not_G_of hx'), dx, [], upd_same, .nil⟩
  obtain ⟨z1, z2⟩ := new_res hx' (r.fixed hdx) hR
  have L := L1.trans L2
  refine call_ok (w := (w.fixed dx (.own x) hdx).grown x (.ins C dx []) hx') (l.trans L) hX z2 (.cons z1 (rs.mono L)) h fun s ρ' w' v h3 l3 r3 q3 => ?_
  obtain ⟨rfl, h3⟩ := h3
  exact ⟨non_of r3, k _ _ w' _ h3 (L.trans l3) (z1.mono l3) q3⟩
theorem sim_make {C : Addr} {b : List Bool} {F : AF} {E : XK} {X : XA} {t : TA} {a : ATA} (hX : XOk K w0 E X) (ha : SimA K w0 t a) : SimE K w0 (tMake C (Conc K F) [] E t) (aMake C b F X a) := by
  intro w st σ Q Kc l r e h k
  refine ha w st σ _ _ l r e h fun ss ρ1 w1 vs h1 l1 r1 q1 => ?_
  intro x dx hx hdx ne
  rw [List.append_nil]
  exact make_ok hX (l.trans l1) q1 r1 h1 (fun s ρ' w' v h3 l3 r3 q3 => k _ _ w' v h3 (l1.trans l3) r3 q3) x dx hx hdx ne
theorem sim_makeS {C : Addr} {b : List Bool} {F : AF} {E : XK} {X : XA} {t : TA} {a : ATA} (hX : XOk K w0 E X) (ha : SimA K w0 t a) : SimE K w0 (tMakeS C (Conc K F) (fun _ => E) t) (aMake C b F X a) := by
  intro w st σ Q Kc l r e h k
  refine ha w st σ _ _ l r e h fun ss ρ1 w1 vs h1 l1 r1 q1 => ?_
  exact make_ok hX (l.trans l1) q1 r1 h1 fun s ρ' w' v h3 l3 r3 q3 => k _ _ w' v h3 (l1.trans l3) r3 q3
/-! methods of lists -/
abbrev ABm := Sl → List Sl → List Res → AK → Prop
def aBML (f : ABm) (a : ATE) (al : ATA) : ATE := fun st Kc => a st fun s ρ1 => (∃ l, lstOf ρ1 s = some l) ∧ al ⟨st.δ, ρ1⟩ fun ss ρ2 => f s ss ρ2 Kc
def fAppend : ABm := fun s ss ρ Kc => match s, ss with
  | .res k, [x] => frz ρ x fun d ρ1 => (match ρ1[k]? with
    | some (.lst l) => l.length < sizeLine ∧ Kc (.dat .non) (ρ1.set k (.lst (l ++ [d])))
    | _ => False)
  | _, _ => False
def SimB (K : PySem.W.Frag) (r : V → List V → Hp → VK → Prop) (f : ABm) : Prop := ∀ w ρ x s xs ss (Q : VK) (Kc : AK), RsR K w ρ → RS K w x s → RSs K w xs ss → f s ss ρ Kc →
  (∀ s' ρ' w' v, Kc s' ρ' → Le w w' → RS K w' v s' → RsR K w' ρ' → Q v w'.H) → r x xs w.H Q
theorem sim_bm {r : V → List V → Hp → VK → Prop} {f : ABm} {t : TE} {tl : TA} {a : ATE} {al : ATA} (hr : SimB K r f) (ha : SimE K w0 t a) (hl : SimA K w0 tl al) : SimE K w0 (tBM K "list" r t tl) (aBML f a al) := by
  intro w st σ Q Kc l rr e h k
  refine ha w st σ _ _ l rr e h fun s ρ1 w1 v h1 l1 r1 q1 => ?_
  obtain ⟨⟨ll, e1⟩, h1⟩ := h1
  obtain ⟨a', kk, xs, rfl, rfl, _, _, _, hx, _⟩ := lst_of q1 r1 e1
  refine ⟨isLst hx, ?_⟩
  refine hl w1 ⟨st.δ, ρ1⟩ σ _ _ (l.trans l1) q1 (e.mono l1) h1 fun ss ρ2 w2 vs h2 l2 r2 q2 => ?_
  exact hr w2 ρ2 _ _ vs ss _ _ q2 (r1.mono l2) r2 h2 fun s' ρ' w' v' h3 l3 r3 q3 => k _ _ _ _ h3 (l1.trans (l2.trans l3)) r3 q3
theorem sb_append : SimB K rAppend fAppend := by
  intro w ρ x s xs ss Q Kc r rx rs h k
  unfold fAppend at h
  split at h
  · rename_i kk y
    obtain ⟨v, rfl, rv⟩ := one_of rs
    obtain ⟨d, ρ1, w1, h1, l1, e1, r1, q1⟩ := sim_frz r rv h
    rw [← e1]
    obtain ⟨a, ha, rfl⟩ := rx.mono l1
    split at h1
    · rename_i l hk
      obtain ⟨ng, ys, hx, qx⟩ := q1.at_ kk a _ ha hk
      have L2 := Le.wrote w1 a (.lst (ys ++ [v])) (as_mem ha) ng
      have hR : RR K (w1.wrote a (.lst (ys ++ [v])) (as_mem ha)) a (.lst (l ++ [d])) := ⟨ng, _, upd_same, (qx.app (.cons r1 .nil)).mono L2⟩
      exact ⟨a, ys, v, rfl, rfl, hx, by rw [qx.len]; exact h1.1, k _ _ (w1.wrote a _ (as_mem ha)) _ h1.2 (l1.trans L2) (show RV K _ _ _ from .non) (q1.wrote ha ng hR)⟩
    · exact h1.elim
  · exact h.elim
/-! dicts -/
def aDNew : ATE := fun st Kc => Kc (.res st.ρ.length) (st.ρ ++ [.dic []])
theorem sim_dnew : SimE K w0 tDNewK aDNew := by
  intro w st σ Q Kc l r e h k
  intro p hp
  have hR : RR K (w.grown p (.dK []) hp) p (.dic []) := ⟨(show ¬ w.G p from not_G_of hp), [], upd_same, .nil⟩
  obtain ⟨z1, z2⟩ := new_res hp r hR
  exact k _ _ (w.grown p _ hp) _ h (Le.grown w p _ hp) z1 z2
/-- {**d, k: v}, k and v names -/
def aStarKV (ad : ATE) (ik iv : Nat) : ATE := fun st Kc => ad ⟨st.δ, st.ρ ++ [.dic []]⟩ fun x ρ1 => ρ1 = st.ρ ++ [.dic []] ∧ x ≠ .res st.ρ.length ∧ ∃ kvs, dicOf ρ1 x = some kvs ∧ kvs.length < sizeLine ∧
  ∃ yd key zd, st.δ[ik]? = some (some (.dat yd)) ∧ keyOf yd = some key ∧ st.δ[iv]? = some (some (.dat zd)) ∧ Kc (.res st.ρ.length) (st.ρ ++ [.dic (putD kvs key zd)] ++ [.dic [(key, zd)]])
/-- {**d, **e} -/
def aStar2 (ad ae : ATE) : ATE := fun st Kc => ad ⟨st.δ, st.ρ ++ [.dic []]⟩ fun x ρ1 => ρ1 = st.ρ ++ [.dic []] ∧ x ≠ .res st.ρ.length ∧ ∃ kvs, dicOf ρ1 x = some kvs ∧ kvs.length ≤ sizeLine ∧
  ae ⟨st.δ, st.ρ ++ [.dic kvs]⟩ fun y ρ2 => ρ2 = st.ρ ++ [.dic kvs] ∧ y ≠ .res st.ρ.length ∧ ∃ more, dicOf ρ2 y = some more ∧ kvs.length + more.length ≤ sizeLine ∧
    Kc (.res st.ρ.length) (st.ρ ++ [.dic (more.foldl (fun l kv => putD l kv.1 kv.2) kvs)])
theorem dsrc_of {w : W} {ρ : List Res} (r : RsR K w ρ) {v : V} {s : Sl} {l : List (Key × D)} {m : Nat} {p : Addr} (h : RS K w v s) (e : dicOf ρ s = some l) (ne : s ≠ .res m) (hp : w.as[m]? = some p) (ng : ¬ w.G p) : ∃ xs, DSrc w.H v p xs ∧ RVk K w xs l := by
  unfold dicOf at e
  split at e
  · cases e
    cases (show RV K w v _ from h) with
    | dct g h1 q => exact ⟨_, ⟨_, rfl, .inl h1, fun z => ng (z ▸ g)⟩, q⟩
  · split at e
    · rename_i k _ _ hk
      cases e
      obtain ⟨a, ha, rfl⟩ := h
      obtain ⟨n, xs, h1, h2⟩ := r.at_ _ a _ ha hk
      exact ⟨xs, ⟨a, rfl, .inl h1, fun z => ne (by subst z; rw [as_inj ha hp])⟩, h2⟩
    · cases e
  · cases e
theorem last_get {α : Type} (l : List α) (x : α) : (l ++ [x])[l.length]? = some x := by rw [List.getElem?_append_right (Nat.le_refl _), Nat.sub_self]; rfl
theorem set_last {α : Type} (l : List α) (x y : α) : (l ++ [x]).set l.length y = l ++ [y] := by rw [List.set_append_right _ _ (Nat.le_refl _), Nat.sub_self]; rfl
theorem as_ext {w w' : W} (l : Le w w') {k : Nat} {a : Addr} (h : w.as[k]? = some a) : w'.as[k]? = some a := by
  obtain ⟨m, e⟩ := l.pre
  rw [e, List.getElem?_append_left (List.getElem?_eq_some_iff.mp h).1]; exact h
theorem rvk_nil {w : W} {xs : List (Key × V)} (h : RVk K w xs []) : xs = [] := by cases h; rfl
theorem sim_starKV {td : TE} {ad : ATE} {ik iv : Nat} (hd : SimE K w0 td ad) : SimE K w0 (tStarKV td (tVar ik) (tVar iv)) (aStarKV ad ik iv) := by
  intro w st σ Q Kc l r e h k
  intro p hp
  have hR : RR K (w.grown p (.dK []) hp) p (.dic []) := ⟨(show ¬ w.G p from not_G_of hp), [], upd_same, .nil⟩
  obtain ⟨z1, z2⟩ := new_res hp r hR
  have L0 := Le.grown w p (.dK []) hp
  obtain ⟨pa, hpa, epa⟩ := z1
  cases epa
  unfold aStarKV at h
  refine hd (w.grown p (.dK []) hp) ⟨st.δ, st.ρ ++ [.dic []]⟩ σ _ _ (l.trans L0) z2 (e.mono L0) h fun x ρ1 w1 xv h1 l1 r1 q1 => ?_
  obtain ⟨rfl, nx, kvs, hkv, hl, yd, key, zd, hy0, hkey, hz0, h1⟩ := h1
  have hp1 := as_ext l1 hpa
  obtain ⟨ng1, ys, hy, qy⟩ := q1.at_ _ p _ hp1 (last_get _ _)
  cases rvk_nil qy
  obtain ⟨xs, ds, qk⟩ := dsrc_of q1 r1 hkv nx hp1 ng1
  obtain ⟨yv, e1, ry⟩ := e.at_ ik _ hy0
  obtain ⟨zv, e2, rz⟩ := e.at_ iv _ hz0
  refine ⟨xs, ds, hy, by rw [qk.len]; exact hl, fun q hq => ⟨yv, e1, zv, e2, key, key_of (show RV K w yv yd from ry) hkey, ?_, upd_same, ?_, ?_⟩⟩
  · have : p ≠ q := fun z => by rw [← z, upd_same] at hq; cases hq
    rw [upd_ne this, upd_same]
  · exact fun z => by rw [← z, upd_same] at hq; cases hq
  have LW := Le.wrote w1 p (.dK xs) (as_mem hp1) ng1
  have hR1 : RR K (w1.wrote p (.dK xs) (as_mem hp1)) p (.dic kvs) := ⟨ng1, _, upd_same, qk.mono LW⟩
  have q1' := q1.wrote hp1 ng1 hR1
  rw [set_last] at q1'
  have hq' : (w1.wrote p (.dK xs) (as_mem hp1)).H q = none := hq
  have Lz := L0.trans (l1.trans LW)
  have rz' : RV K (w1.wrote p (.dK xs) (as_mem hp1)) zv zd := RV.mono Lz rz
  have hRq : RR K ((w1.wrote p (.dK xs) (as_mem hp1)).grown q (.dK [(key, zv)]) hq') q (.dic [(key, zd)]) := ⟨(show ¬ (w1.wrote p (.dK xs) (as_mem hp1)).G q from not_G_of hq'), _, upd_same, .cons (rz'.mono (Le.grown _ _ _ _)) .nil⟩
  obtain ⟨_, z4⟩ := new_res hq' q1' hRq
  have LG := Le.grown (w1.wrote p (.dK xs) (as_mem hp1)) q (.dK [(key, zv)]) hq'
  have hp3 := as_ext (LW.trans LG) hp1
  have ng3 : ¬ ((w1.wrote p (.dK xs) (as_mem hp1)).grown q (.dK [(key, zv)]) hq').G p := ng1
  have LF := Le.wrote ((w1.wrote p (.dK xs) (as_mem hp1)).grown q (.dK [(key, zv)]) hq') p (.dK (putK xs key zv)) (as_mem hp3) ng3
  have hRF : RR K (((w1.wrote p (.dK xs) (as_mem hp1)).grown q (.dK [(key, zv)]) hq').wrote p (.dK (putK xs key zv)) (as_mem hp3)) p (.dic (putD kvs key zd)) := ⟨ng3, _, upd_same, RVk.put (RV.mono (LG.trans LF) rz') key (qk.mono (LW.trans (LG.trans LF)))⟩
  have q5 := z4.wrote hp3 ng3 hRF
  rw [List.append_assoc, List.set_append_right _ _ (Nat.le_refl _), Nat.sub_self, show ([Res.dic kvs] ++ [Res.dic [(key, zd)]]).set 0 (Res.dic (putD kvs key zd)) = [Res.dic (putD kvs key zd)] ++ [Res.dic [(key, zd)]] from rfl, ← List.append_assoc] at q5
  have hH : upd (upd (upd (upd w1.H p (.dK xs)) q (.dK [])) q (.dK [(key, zv)])) p (.dK (putK xs key zv)) = upd (upd (upd w1.H p (.dK xs)) q (.dK [(key, zv)])) p (.dK (putK xs key zv)) := by rw [upd_upd (a := q)]
  rw [hH]
  exact k _ _ (((w1.wrote p (.dK xs) (as_mem hp1)).grown q (.dK [(key, zv)]) hq').wrote p (.dK (putK xs key zv)) (as_mem hp3)) _ h1 (L0.trans (l1.trans (LW.trans (LG.trans LF)))) ⟨p, as_ext LF hp3, rfl⟩ q5
end
end An

set_option Elab.async false
set_option linter.all false
set_option maxRecDepth 100000
namespace Ov
open PySem PySem.Spec PyProof.Rows L2
theorem bi_all : bootBuiltins "all" = some (.builtin "all") := by decide +kernel
def rUpper : V → List V → Hp → VK → Prop := fun x xs H Q => ∃ a, x = .str a ∧ xs = [] ∧ a.length ≤ 5592405 ∧ Q (.str (Txt.upper a)) H
theorem mt_oUpper {X : Cx} : MtR X "str.upper" rUpper := mt_upper
/-- a dict of one pair, written out -/
def tKV1 (tk tv : TE) : TE := tDisp [(tk, tv)]
theorem pe_kv1 {X : Cx} {pos : Pos} {k v : Expr} {tk tv : TE} (hk : PE X k tk) (hv : PE X v tv) : PE X (.Dict [some k] [v] pos) (tKV1 tk tv) := pe_disp (pps_cons hk hv pps_nil) rfl rfl (by simp) (by show 1 ≤ 15; omega)
end Ov
namespace An
open PySem PySem.Spec PyProof.Rows L2 Ov
def fNeg : Sl → List Res → AK → Prop := fun s ρ Kc => match s with
  | .dat (.int i) => Kc (.dat (.int (-i))) ρ
  | _ => False
def fLtS : AOp := fun s u ρ Kc => match s, u with
  | .dat (.str a), .dat (.str b) => Kc (.dat (.bl (decide (a.cps.toList < b.cps.toList)))) ρ
  | _, _ => False
def blOf : D → Option Bool
  | .bl b => some b
  | _ => none
def fAll : ACb := fun ss ρ Kc => match ss with
  | [s] => (match lsOf ρ s with
    | some l => ∃ bs : List Bool, l.map blOf = bs.map some ∧ Kc (.dat (.bl (bs.all id))) ρ
    | none => False)
  | _ => False
def aUpper (a : ATE) : ATE := fun st Kc => a st fun s ρ1 => match s with
  | .dat (.str z) => z.length ≤ 5592405 ∧ Kc (.dat (.str (Txt.upper z))) ρ1
  | _ => False
def aKV1 (a b : ATE) : ATE := fun st Kc => a ⟨st.δ, st.ρ ++ [.dic []]⟩ fun y ρ1 => b ⟨st.δ, ρ1⟩ fun z ρ2 => frz ρ2 (nrm ρ2 z) fun d ρ3 => ∃ yd key, y = .dat yd ∧ keyOf yd = some key ∧ ρ3[st.ρ.length]? = some (.dic []) ∧ Kc (.res st.ρ.length) (ρ3.set st.ρ.length (.dic [(key, d)]))
def aTruth (a : ATE) : ATT := fun st Kc => a st fun s ρ1 => match s with
  | .dat (.tup l) => Kc (!l.isEmpty) ρ1
  | s => match lsOf ρ1 s with
    | some l => Kc (!l.isEmpty) ρ1
    | none => False
section
variable {K : PySem.W.Frag} {w0 : W}
theorem su_neg : SimU K oNeg fNeg := by
  intro w ρ x s Q Kc r rx h k
  unfold fNeg at h
  split at h
  · cases int_of rx
    exact k _ _ w _ h (.refl w) (show RV K w _ _ from .int _) r
  · exact h.elim
theorem so_ltS : SimO K oLtS fLtS := by
  intro w ρ x y s u Q Kc r rx ry h k
  unfold fLtS at h
  split at h
  · cases str_of rx; cases str_of ry
    exact ⟨_, _, rfl, rfl, k _ _ w _ h (.refl w) (show RV K w _ _ from .bl _) r⟩
  · exact h.elim
theorem bls_of {w : W} : ∀ {xs : List V} {l : List D} {bs : List Bool}, RVs K w xs l → l.map blOf = bs.map some → xs = bs.map V.bl
  | _, _, [], .nil, _ => rfl
  | _, _, b :: bs, .nil, e => by cases e
  | _, _, [], .cons _ _, e => by cases e
  | _, _, b :: bs, @RVs.cons _ _ x d xs ds r t, e => by
    rw [List.map_cons, List.map_cons] at e
    injection e with e1 e2
    rw [List.map_cons, bls_of t e2]
    congr 1
    unfold blOf at e1
    split at e1
    · cases e1; cases r; rfl
    · cases e1
theorem sc_all : SimC K (rAll K) fAll := by
  intro w ρ xs ss Q Kc rr rx h k
  unfold fAll at h
  split at h
  · obtain ⟨x, rfl, r⟩ := one_of rx
    split at h
    · rename_i l hl
      obtain ⟨bs, e, h⟩ := h
      obtain ⟨a, ys, rfl, hq, q⟩ := ls_of rr r hl
      rw [bls_of q e] at hq
      exact ⟨a, bs, rfl, hq, k _ _ w _ h (.refl w) (show RV K w _ _ from .bl _) rr⟩
    · exact h.elim
  · exact h.elim
theorem sim_upper {t : TE} {a : ATE} (ha : SimE K w0 t a) : SimE K w0 (tBM0 K "str" rUpper t) (aUpper a) := by
  intro w st σ Q Kc l r e h k
  refine ha w st σ _ _ l r e h fun s ρ1 w1 v h1 l1 r1 q1 => ?_
  split at h1
  · cases str_of r1
    exact ⟨by first | rfl | trivial | exact ⟨_, rfl⟩, _, rfl, rfl, h1.1, k _ _ w1 _ h1.2 l1 (show RV K w1 _ _ from .str _) q1⟩
  · exact h1.elim
theorem sim_truth {t : TE} {a : ATE} (ha : SimE K w0 t a) : SimT K w0 (tTruth K t) (aTruth a) := by
  intro w st σ Q Kc l r e h k
  refine ha w st σ _ _ l r e h fun s ρ1 w1 v h1 l1 r1 q1 => ?_
  have em : ∀ {xs : List V} {ds : List D}, RVs K w1 xs ds → xs.isEmpty = ds.isEmpty := fun {xs ds} q => by cases q <;> rfl
  split at h1
  · obtain ⟨b, rfl, hs⟩ := tup_stays r1
    obtain ⟨xs, z, q⟩ := hs w1 (.refl w1)
    exact ⟨_, .inr (.inl ⟨xs, z, rfl⟩), by rw [em q]; exact k _ _ w1 h1 l1 q1⟩
  · split at h1
    · rename_i l' hl
      obtain ⟨b, xs, rfl, z, q⟩ := ls_of q1 r1 hl
      exact ⟨_, .inl ⟨xs, z, rfl⟩, by rw [em q]; exact k _ _ w1 h1 l1 q1⟩
    · exact h1.elim
theorem sim_kv1 {tk tv : TE} {a b : ATE} (hk : SimE K w0 tk a) (hv : SimE K w0 tv b) : SimE K w0 (tKV1 tk tv) (aKV1 a b) := by
  intro w st σ Q Kc l r e h k
  intro p hp
  have hR : RR K (w.grown p (.dK []) hp) p (.dic []) := ⟨(show ¬ w.G p from not_G_of hp), [], upd_same, .nil⟩
  obtain ⟨⟨pa, hpa, epa⟩, z2⟩ := new_res hp r hR
  cases epa
  have L0 := Le.grown w p (.dK []) hp
  unfold aKV1 at h
  refine hk (w.grown p (.dK []) hp) ⟨st.δ, st.ρ ++ [.dic []]⟩ σ _ _ (l.trans L0) z2 (e.mono L0) h fun y ρ1 w1 yv h1 l1 r1 q1 => ?_
  refine hv w1 ⟨st.δ, ρ1⟩ σ _ _ (l.trans (L0.trans l1)) q1 (e.mono (L0.trans l1)) h1 fun z ρ2 w2 zv h2 l2 r2 q2 => ?_
  obtain ⟨d, ρ3, w3, h3, l3, e3, r3, q3⟩ := sim_frz q2 (r2.nrm q2) h2
  obtain ⟨yd, key, rfl, hkey, h4, h5⟩ := h3
  have hp3 := as_ext (l1.trans (l2.trans l3)) hpa
  obtain ⟨ng, ys, hy, qy⟩ := q3.at_ _ p _ hp3 h4
  cases rvk_nil qy
  show _ ∧ _
  rw [← e3]
  have LW := Le.wrote w3 p (.dK [(key, zv)]) (as_mem hp3) ng
  have hRF : RR K (w3.wrote p (.dK [(key, zv)]) (as_mem hp3)) p (.dic [(key, d)]) := ⟨ng, _, upd_same, .cons (r3.mono LW) .nil⟩
  refine ⟨hy, [(key, zv)], ?_, by show 1 ≤ 15; omega, k _ _ (w3.wrote p (.dK [(key, zv)]) (as_mem hp3)) _ h5 (L0.trans (l1.trans (l2.trans (l3.trans LW)))) ⟨p, hp3, rfl⟩ (q3.wrote hp3 ng hRF)⟩
  show [(yv, zv)] = [(kV key, zv)]
  rw [key_of (show RV K w1 yv yd from r1) hkey]
/-! #### draws; the law -/
/-- a draw: any number below the limit -/
def F_draw : AF := fun ags R X => ∃ l : Int, ags = [.res .pool, .dat (.int l)] ∧ 0 < l ∧ l < 2 ^ 60 ∧ ∀ r : Int, 0 ≤ r → r < l → R (.dat (.int r)) [.pool]
/-- the law itself over data -/
def lawD (ns : List Int) : Ag := .dat (.lst (ns.map .int))
theorem ints_rv {w : W} : ∀ ns : List Int, RVs K w (ns.map V.int) (ns.map D.int)
  | [] => .nil
  | i :: r => .cons (.int i) (ints_rv r)
theorem law_ok {N : List Str} {t : TS} {a : ATS} {H : Hp} {Q : VK} {p : Addr} {ns : List Int} (S : ∀ w0, SimS K w0 t a) (hS : SqL K H p (ns.map V.int)) (q : ∀ H', Q (.bl true) H')
    (A : a { nx := fun _ => False, rt := fun s _ => s = .dat (.bl true) } (aStart N.length [lawD ns])) : t { nx := fun _ H' => Q .non H', rt := Q } (L2.start N [.ref p]) H := by
  let w : W := ⟨fun b => ∃ o, H b = some o, [], H, List.nodup_nil, fun a h => h, fun a h => by cases h⟩
  have fx : Fx w p (fun H => SqL K H p (ns.map V.int)) := fun H' e => by
    rcases hS with h | h
    · refine .inl ?_
      have : H' p = H p := e (by
        rcases h with h | ⟨o, h⟩ <;> exact ⟨_, h⟩)
      rcases h with h | ⟨o, h⟩
      · exact .inl (this.trans h)
      · exact .inr ⟨o, this.trans h⟩
    · exact .inr h
  refine S w w (aStart N.length [lawD ns]) _ _ _ (.refl w) ⟨rfl, fun k a r e => by cases e⟩ ⟨?_, fun i s e => ?_⟩ A ⟨fun _ _ _ h => h.elim, fun s ρ' w' v h l r rv => ?_, fun _ _ _ h => h.elim, fun _ _ _ h => h.elim⟩
  · show (L2.start N [.ref p]).length = ([some (Sl.dat (.lst (ns.map .int)))] ++ List.replicate (N.length - 1) none).length
    rw [start_len, List.length_append, List.length_replicate]; rfl
  · have e' : ([some (Sl.dat (.lst (ns.map .int)))] ++ List.replicate (N.length - 1) none)[i]? = some (some s) := e
    cases i with
    | zero =>
      cases e'
      exact ⟨.ref p, rfl, (show RV K w _ _ from .lst fx (ints_rv ns))⟩
    | succ i =>
      have := List.mem_of_getElem? (show (List.replicate (N.length - 1) (none : Option Sl))[i]? = some (some s) from e')
      rw [List.mem_replicate] at this
      cases this.2
  · subst h
    cases bl_of rv
    exact q _
end
end An

set_option Elab.async false
set_option linter.all false
set_option maxRecDepth 100000
namespace An
open PySem PySem.Spec PyProof.Rows L2 Ov
/-! #### one step of a reading over data -/
section
variable {δ : List (Option Sl)} {A : AE} {nx bk ct : ASt → Prop} {rt : AK} {Kc : AK} {Kb : Bool → List Res → Prop} {Ka : List Sl → List Res → Prop} {Ks : ASt → Prop} {Kp : Option Int → List Res → Prop} {Kd : D → List Res → Prop} {Kds : List D → List Res → Prop} {Kg : List Ag → List Nat → List Res → Prop} {Ki : KI} {a b c : ATE} {ta tb : ATT} {la : ATA} {g : ATG} {gs : ATGs} {sa sb : ATS} {ρ ρ' : List Res} {x y s : Sl} {xs ss : List Sl} {d e : D} {i j : Int} {z u : Str} {k n m : Nat} {l l' : List D} {X : XA} {f f' : AOp} {F : AF} {C : Addr} {fn : Str} {r : Res} {bb : Bool} {bs : List Bool} {fs : List (Str × D)} {kv : List (Key × D)} {ao ai : ATE} {pl ph : ATO} {it : AIt} {fc : ACb} {fm : ABm} {q : Bool} {key : Key}
theorem s_seq (h : sa ⟨fun st' => sb ⟨nx, rt, bk, ct⟩ st', rt, bk, ct⟩ ⟨δ, ρ⟩) : aSeq sa sb ⟨nx, rt, bk, ct⟩ ⟨δ, ρ⟩ := h
theorem s_next (h : nx ⟨δ, ρ⟩) : aNext ⟨nx, rt, bk, ct⟩ ⟨δ, ρ⟩ := h
theorem s_asg (h : a ⟨δ, ρ⟩ fun s ρ1 => g s ⟨δ, ρ1⟩ nx) : aAsg a g ⟨nx, rt, bk, ct⟩ ⟨δ, ρ⟩ := h
theorem s_name (h : Ks ⟨δ.set n (some s), ρ⟩) : aName n s ⟨δ, ρ⟩ Ks := h
theorem s_drop (h : a ⟨δ, ρ⟩ fun _ ρ1 => nx ⟨δ, ρ1⟩) : aDrop a ⟨nx, rt, bk, ct⟩ ⟨δ, ρ⟩ := h
theorem s_ret (h : a ⟨δ, ρ⟩ rt) : aRet a ⟨nx, rt, bk, ct⟩ ⟨δ, ρ⟩ := h
theorem s_retN (h : rt (.dat .non) ρ) : aRetN ⟨nx, rt, bk, ct⟩ ⟨δ, ρ⟩ := h
theorem s_cont (h : ct ⟨δ, ρ⟩) : aCont ⟨nx, rt, bk, ct⟩ ⟨δ, ρ⟩ := h
theorem s_break (h : bk ⟨δ, ρ⟩) : aBreak ⟨nx, rt, bk, ct⟩ ⟨δ, ρ⟩ := h
theorem s_ifS (h : ta ⟨δ, ρ⟩ fun k ρ1 => if k = true then sa ⟨nx, rt, bk, ct⟩ ⟨δ, ρ1⟩ else sb ⟨nx, rt, bk, ct⟩ ⟨δ, ρ1⟩) : aIfS ta sa sb ⟨nx, rt, bk, ct⟩ ⟨δ, ρ⟩ := h
theorem s_if (h : ta ⟨δ, ρ⟩ fun k ρ1 => if k = true then a ⟨δ, ρ1⟩ Kc else b ⟨δ, ρ1⟩ Kc) : aIf ta a b ⟨δ, ρ⟩ Kc := h
theorem s_var (e : δ[n]? = some (some s)) (e2 : nrm ρ s = x) (h : Kc x ρ) : aVar n ⟨δ, ρ⟩ Kc := by unfold aVar; rw [e]; dsimp only; rw [e2]; exact h
theorem s_c (h : Kc (.dat d) ρ) : aC d ⟨δ, ρ⟩ Kc := h
theorem s_op (h : a ⟨δ, ρ⟩ fun x ρ1 => b ⟨δ, ρ1⟩ fun y ρ2 => f (nrm ρ2 x) y ρ2 Kc) : aOp f a b ⟨δ, ρ⟩ Kc := h
theorem s_chain (h : a ⟨δ, ρ⟩ fun x ρ1 => b ⟨δ, ρ1⟩ fun y ρ2 => f (nrm ρ2 x) y ρ2 (kTest fun k ρ3 => if k = true then c ⟨δ, ρ3⟩ fun u ρ4 => f' (nrm ρ4 y) u ρ4 Kc else Kc (.dat (.bl false)) ρ3)) : aChain f f' a b c ⟨δ, ρ⟩ Kc := h
theorem s_nil (h : Ka [] ρ) : aNil ⟨δ, ρ⟩ Ka := h
theorem s_cons (h : a ⟨δ, ρ⟩ fun x ρ1 => la ⟨δ, ρ1⟩ fun xs ρ2 => Ka (nrm ρ2 x :: xs) ρ2) : aCons a la ⟨δ, ρ⟩ Ka := h
theorem s_test (h : a ⟨δ, ρ⟩ (kTest Kb)) : aTest a ⟨δ, ρ⟩ Kb := h
theorem s_kTest (h : Kb bb ρ) : kTest Kb (.dat (.bl bb)) ρ := h
theorem s_and (h : ta ⟨δ, ρ⟩ fun c ρ1 => if c = true then tb ⟨δ, ρ1⟩ Kb else Kb false ρ1) : aAnd ta tb ⟨δ, ρ⟩ Kb := h
theorem s_or (h : ta ⟨δ, ρ⟩ fun c ρ1 => if c = true then Kb true ρ1 else tb ⟨δ, ρ1⟩ Kb) : aOr ta tb ⟨δ, ρ⟩ Kb := h
theorem s_not (h : ta ⟨δ, ρ⟩ fun c ρ1 => Kb (!c) ρ1) : aNot ta ⟨δ, ρ⟩ Kb := h
theorem s_andV (h : a ⟨δ, ρ⟩ (kTest fun c ρ1 => if c = true then b ⟨δ, ρ1⟩ Kc else Kc (.dat (.bl false)) ρ1)) : aAndV a b ⟨δ, ρ⟩ Kc := h
theorem s_orV (h : a ⟨δ, ρ⟩ (kTest fun c ρ1 => if c = true then Kc (.dat (.bl true)) ρ1 else b ⟨δ, ρ1⟩ Kc)) : aOrV a b ⟨δ, ρ⟩ Kc := h
theorem s_notV (h : a ⟨δ, ρ⟩ (kTest fun c ρ1 => Kc (.dat (.bl (!c))) ρ1)) : aNotV a ⟨δ, ρ⟩ Kc := h
theorem s_tup (h : la ⟨δ, ρ⟩ fun xs ρ1 => xs.length ≤ sizeLine ∧ frzs ρ1 xs fun ds ρ2 => Kc (.dat (.tup ds)) ρ2) : aTup la ⟨δ, ρ⟩ Kc := h
theorem s_lst (h : la ⟨δ, ρ⟩ fun xs ρ1 => xs.length ≤ sizeLine ∧ frzs ρ1 xs fun ds ρ2 => Kc (.res ρ2.length) (ρ2 ++ [.lst ds])) : aLst la ⟨δ, ρ⟩ Kc := h
theorem s_frzs0 (h : Kds [] ρ) : frzs ρ [] Kds := h
theorem s_frzs1 (h : frz ρ (nrm ρ s) fun d ρ1 => frzs ρ1 ss fun ds ρ2 => Kds (d :: ds) ρ2) : frzs ρ (s :: ss) Kds := h
theorem s_frzD (e : s = .dat d) (h : Kd d ρ) : frz ρ s Kd := by subst e; exact h
theorem s_frzR (e : s = .res k) (e2 : (ρ[k]?).bind Res.data = some d) (h : Kd d (ρ.set k (.fz d))) : frz ρ s Kd := by subst e; unfold frz; dsimp only; rw [e2]; exact h
theorem s_un {fu : Sl → List Res → AK → Prop} (h : a ⟨δ, ρ⟩ fun x ρ1 => fu x ρ1 Kc) : aUn fu a ⟨δ, ρ⟩ Kc := h
theorem s_neg (e : x = .dat (.int i)) (h : Kc (.dat (.int (-i))) ρ) : fNeg x ρ Kc := by subst e; exact h
theorem s_cb (h : la ⟨δ, ρ⟩ fun xs ρ1 => fc xs ρ1 Kc) : aCB fc la ⟨δ, ρ⟩ Kc := h
theorem s_noPart (h : Kp none ρ) : aNoPart ⟨δ, ρ⟩ Kp := h
theorem s_part (h : a ⟨δ, ρ⟩ (kPart Kp)) : aPart a ⟨δ, ρ⟩ Kp := h
theorem s_kPart (h : Kp (some i) ρ) : kPart Kp (.dat (.int i)) ρ := h
theorem s_sl {fl : ASl} (h : a ⟨δ, ρ⟩ fun x ρ1 => pl ⟨δ, ρ1⟩ fun l ρ2 => ph ⟨δ, ρ2⟩ fun h ρ3 => fl (nrm ρ3 x) l h ρ3 Kc) : aSl fl a pl ph ⟨δ, ρ⟩ Kc := h
theorem s_raise (h : la ⟨δ, ρ⟩ (kOne fun s ρ1 => frz ρ1 s fun d ρ2 => X C fn d ρ2)) : aRaise C fn X la A ⟨δ, ρ⟩ := h
theorem s_kOne {K : Sl → List Res → Prop} (h : K s ρ) : kOne K [s] ρ := h
theorem s_gnil (h : Ks ⟨δ, ρ⟩) : aGNil [] ⟨δ, ρ⟩ Ks := ⟨rfl, h⟩
theorem s_gcons (h : g s ⟨δ, ρ⟩ fun st1 => gs ss st1 Ks) : aGCons g gs (s :: ss) ⟨δ, ρ⟩ Ks := h
theorem s_gtup (e : x = .dat (.tup l)) (e2 : l.length = n) (h : gs (l.map .dat) ⟨δ, ρ⟩ Ks) : aGTup n gs x ⟨δ, ρ⟩ Ks := by subst e; exact ⟨e2, h⟩
theorem s_fld (h : a ⟨δ, ρ⟩ (kFld C fn Kc)) : aFld C fn a ⟨δ, ρ⟩ Kc := h
theorem s_kFld (e : (fldOf C ρ x).bind (fun fs => fs.lookup fn) = some d) (h : Kc (.dat d) ρ) : kFld C fn Kc x ρ := by unfold kFld; rw [e]; exact h
theorem s_sfld (h : b ⟨δ, ρ⟩ fun y ρ1 => a ⟨δ, ρ1⟩ fun o ρ2 => frz ρ2 (nrm ρ2 y) fun d ρ3 => kSFld C fn (fun ρ4 => nx ⟨δ, ρ4⟩) (nrm ρ3 o) d ρ3) : asFld C fn a b ⟨nx, rt, bk, ct⟩ ⟨δ, ρ⟩ := h
theorem s_kSFld {K : List Res → Prop} (e : x = .res k) (e2 : ρ[k]? = some (.ins C fs)) (hl : fs.length < 1000) (h : K (ρ.set k (.ins C (putFD fn d fs)))) : kSFld C fn K x d ρ := by
  subst e; unfold kSFld; dsimp only; rw [e2]; exact ⟨rfl, hl, h⟩
theorem s_meth {bs : List Bool} {m : Str} (h : a ⟨δ, ρ⟩ fun s ρ1 => aObj C m s ρ1 ∧ la ⟨δ, ρ1⟩ fun ss ρ2 => aFn (true :: bs) F X (nrm ρ2 s :: ss) ρ2 Kc) : aMeth C m bs F X a la ⟨δ, ρ⟩ Kc := h
theorem s_prop (h : a ⟨δ, ρ⟩ fun s ρ1 => (∃ fs, fldOf C ρ1 s = some fs) ∧ aFn [true] F X [nrm ρ1 s] ρ1 Kc) : aProp C F X a ⟨δ, ρ⟩ Kc := h
theorem s_make (h : la ⟨δ, ρ⟩ fun ss ρ1 => aFn (true :: bs) F X (.res ρ1.length :: ss) (ρ1 ++ [.ins C []]) fun s ρ2 => s = .dat .non ∧ Kc (.res ρ1.length) ρ2) : aMake C bs F X la ⟨δ, ρ⟩ Kc := h
theorem s_lenO (h : la ⟨δ, ρ⟩ (kOne fun s ρ1 => (∃ fs, fldOf C ρ1 s = some fs) ∧ aFn [true] F X [s] ρ1 (kNat Kc))) : aLenO C F X la ⟨δ, ρ⟩ Kc := h
theorem s_kNat {N : Nat} (hn : N ≤ sizeLine) (h : Kc (.dat (.int N)) ρ) : kNat Kc (.dat (.int N)) ρ := ⟨N, rfl, hn, h⟩
theorem s_bm (h : a ⟨δ, ρ⟩ fun s ρ1 => (∃ l, lstOf ρ1 s = some l) ∧ la ⟨δ, ρ1⟩ fun ss ρ2 => fm s ss ρ2 Kc) : aBML fm a la ⟨δ, ρ⟩ Kc := h
theorem s_dnew (h : Kc (.res ρ.length) (ρ ++ [.dic []])) : aDNew ⟨δ, ρ⟩ Kc := h
theorem s_sub (h : ao ⟨δ, ρ⟩ fun o ρ1 => ai ⟨δ, ρ1⟩ fun i ρ2 => frz ρ2 (nrm ρ2 s) fun d ρ3 => setX (nrm ρ3 o) i d ρ3 fun ρ4 => Ks ⟨δ, ρ4⟩) : aSub ao ai s ⟨δ, ρ⟩ Ks := h
theorem s_subO (h : ao ⟨δ, ρ⟩ fun o ρ1 => ai ⟨δ, ρ1⟩ fun i ρ2 => (∃ fs, fldOf C ρ2 (nrm ρ2 o) = some fs) ∧ aFn [true, false, false] F X [nrm ρ2 o, i, nrm ρ2 s] ρ2 fun _ ρ3 => Ks ⟨δ, ρ3⟩) : aSubO C F X ao ai s ⟨δ, ρ⟩ Ks := h
theorem s_setL {K : List Res → Prop} (e : x = .res k) (e2 : ρ[k]? = some (.lst l)) (e3 : y = .dat (.int i)) (e4 : ixN l.length i = some m) (h : K (ρ.set k (.lst (l.set m d)))) : setX x y d ρ K := by
  subst e e3; unfold setX; dsimp only; rw [e2]; dsimp only; rw [e4]; exact h
theorem s_setD {K : List Res → Prop} (e : x = .res k) (e2 : ρ[k]? = some (.dic kv)) (e3 : y = .dat e') (e4 : keyOf e' = some key) (hl : kv.length < sizeLine) (h : K (ρ.set k (.dic (putD kv key d)))) : setX x y d ρ K := by
  subst e e3; unfold setX; dsimp only; rw [e2]; dsimp only; rw [e4]; exact ⟨hl, h⟩
/-! calls -/
theorem s_fn (h : args bs ρ ss fun ags ks ρ1 => F ags (aDone ks ρ1 Kc) fun c f d ρio => X c f d (setAll ρ1 ks ρio)) : aFn bs F X ss ρ Kc := h
theorem s_args0 (h : Kg [] [] ρ) : args bs ρ [] Kg := by unfold args; exact h
theorem s_argsD (e : nrm ρ s = .dat d) (h : args bs ρ ss fun ags ks ρ2 => Kg (.dat d :: ags) ks ρ2) : args (q :: bs) ρ (s :: ss) Kg := by
  cases q with
  | false => show frz ρ (nrm ρ s) _; rw [e]; exact h
  | true => unfold args; rw [e]; exact h
theorem s_argsF (e : nrm ρ s = x) (h : frz ρ x fun d ρ1 => args bs ρ1 ss fun ags ks ρ2 => Kg (.dat d :: ags) ks ρ2) : args (false :: bs) ρ (s :: ss) Kg := by
  subst e; exact h
/-- an argument that changes stands in its place still behind the others -/
theorem s_argsR (e : nrm ρ s = .res k) (h : args bs ρ ss fun ags ks ρ2 => k ∉ ks ∧ ∃ r, ρ2[k]? = some r ∧ Kg (.res r :: ags) (k :: ks) ρ2)
    (mono : ∀ K K' : List Ag → List Nat → List Res → Prop, (∀ a b c, K a b c → K' a b c) → args bs ρ ss K → args bs ρ ss K') : args (true :: bs) ρ (s :: ss) Kg := by
  unfold args
  rw [e]
  dsimp only
  refine mono _ _ (fun a b c z => ?_) h
  obtain ⟨z1, r, z2, z3⟩ := z
  refine ⟨z1, ?_⟩
  rw [z2]
  exact z3
theorem frz_mono {K K' : D → List Res → Prop} (m : ∀ a b, K a b → K' a b) (h : frz ρ s K) : frz ρ s K' := by
  cases s with
  | dat d => exact m _ _ h
  | res k =>
    unfold frz at h ⊢
    dsimp only at h ⊢
    split at h
    · exact m _ _ h
    · exact h.elim
theorem args_mono : ∀ {bs : List Bool} {ss : List Sl} {ρ : List Res} {K K' : List Ag → List Nat → List Res → Prop}, (∀ a b c, K a b c → K' a b c) → args bs ρ ss K → args bs ρ ss K'
  | bs, [], ρ, K, K', m, h => by unfold args at h ⊢; exact m _ _ _ h
  | [], s :: ss, ρ, K, K', m, h => frz_mono (fun a b z => args_mono (fun _ _ _ y => m _ _ _ y) z) h
  | false :: bs, s :: ss, ρ, K, K', m, h => frz_mono (fun a b z => args_mono (fun _ _ _ y => m _ _ _ y) z) h
  | true :: bs, s :: ss, ρ, K, K', m, h => by
    unfold args at h ⊢
    split at h
    · exact args_mono (fun _ _ _ y => m _ _ _ y) h
    · refine args_mono (fun a b c z => ⟨z.1, ?_⟩) h
      have := z.2
      split at this
      · exact m _ _ _ this
      · exact this.elim
theorem s_argsR' (e : nrm ρ s = .res k) (h : args bs ρ ss fun ags ks ρ2 => k ∉ ks ∧ ∃ r, ρ2[k]? = some r ∧ Kg (.res r :: ags) (k :: ks) ρ2) : args (true :: bs) ρ (s :: ss) Kg := s_argsR e h fun _ _ m h => args_mono m h
/-! operators -/
theorem s_iI {Cq : Int → Int → Prop} {gq : Int → Int → D} (e1 : x = .dat (.int i)) (e2 : y = .dat (.int j)) (hC : Cq i j) (h : Kc (.dat (gq i j)) ρ) : iI Cq gq x y ρ Kc := by subst e1 e2; exact ⟨hC, h⟩
theorem s_addI (e1 : x = .dat (.int i)) (e2 : y = .dat (.int j)) (h : Kc (.dat (.int (i + j))) ρ) : fAdd x y ρ Kc := by subst e1 e2; exact h
theorem s_addS (e1 : x = .dat (.str z)) (e2 : y = .dat (.str u)) (hl : z.length + u.length ≤ sizeLine) (h : Kc (.dat (.str (z ++ u))) ρ) : fAdd x y ρ Kc := by subst e1 e2; exact ⟨hl, h⟩
theorem s_addT (e1 : x = .dat (.tup l)) (e2 : y = .dat (.tup l')) (hl : l.length + l'.length ≤ sizeLine) (h : Kc (.dat (.tup (l ++ l'))) ρ) : fAdd x y ρ Kc := by subst e1 e2; exact ⟨hl, h⟩
theorem s_addL (e1 : lstOf ρ x = some l) (e2 : lstOf ρ y = some l') (hl : l.length + l'.length ≤ sizeLine) (h : Kc (.res ρ.length) (ρ ++ [.lst (l ++ l')])) : fAdd x y ρ Kc := by
  have hx : ∃ k, x = .res k := by
    cases x with
    | dat d => cases e1
    | res k => exact ⟨k, rfl⟩
  obtain ⟨k, rfl⟩ := hx
  unfold fAdd
  split
  · rename_i q; cases q
  · rename_i q; cases q
  · rename_i q; cases q
  · rw [e1, e2]; exact ⟨hl, h⟩
theorem s_mulI (e1 : x = .dat (.int i)) (e2 : y = .dat (.int j)) (hC : CMulW i j) (h : Kc (.dat (.int (i * j))) ρ) : fMul x y ρ Kc := by subst e1 e2; exact ⟨hC, h⟩
theorem s_mulS (e1 : x = .dat (.str z)) (e2 : y = .dat (.int i)) (hC : MulOk z i) (h : Kc (.dat (.str (Txt.mul z i))) ρ) : fMul x y ρ Kc := by subst e1 e2; exact ⟨hC, h⟩
theorem s_ixQ (e1 : seqOf ρ x = some l) (e2 : y = .dat (.int i)) (e3 : atI l i = some d) (h : Kc (.dat d) ρ) : fIx x y ρ Kc := by
  subst e2
  cases x with
  | dat d' =>
    cases d' <;> first
      | (cases e1; done)
      | (unfold fIx; dsimp only; rw [e1]; dsimp only; rw [e3]; exact h)
  | res k => unfold fIx; dsimp only; rw [e1]; dsimp only; rw [e3]; exact h
theorem s_ixS {cc : Nat} (e1 : x = .dat (.str z)) (e2 : y = .dat (.int i)) (hz : z.length ≤ sizeLine) (e3 : atI z.cps.toList i = some cc) (h : Kc (.dat (.str ⟨#[cc]⟩)) ρ) : fIx x y ρ Kc := by
  subst e1 e2
  refine ⟨hz, ?_⟩
  rw [e3]
  exact h
theorem s_ixD (e1 : dicOf ρ x = some kv) (e2 : y = .dat e) (e3 : keyOf e = some key) (e4 : (kv.find? fun p => decide (p.1 = key)).map (·.2) = some d) (h : Kc (.dat d) ρ) : fIx x y ρ Kc := by
  subst e2
  have hs : seqOf ρ x = none := by
    unfold dicOf at e1
    split at e1
    · rfl
    · rename_i k; unfold seqOf; dsimp only; split
      · rename_i q; rw [q] at e1; cases e1
      · rfl
    · cases e1
  cases x with
  | dat d' =>
    cases d' <;> first
      | (cases e1; done)
      | (unfold fIx; dsimp only; rw [hs, e1, e3]; dsimp only; rw [e4]; exact h)
  | res k => unfold fIx; dsimp only; rw [hs, e1, e3]; dsimp only; rw [e4]; exact h
theorem s_eqB (e1 : dOf ρ x = some d) (e2 : dOf ρ y = some e) (e3 : scD d e = some bb) (h : Kc (.dat (.bl (if q then !bb else bb))) ρ) : fEq q x y ρ Kc := by
  unfold fEq; rw [e1, e2]; dsimp only; unfold eqK; rw [e3]; exact h
theorem s_eqI (e1 : x = .dat (.int i)) (e2 : y = .dat (.int j)) (h : Kc (.dat (.bl (if q then !decide (i = j) else decide (i = j)))) ρ) : fEq q x y ρ Kc := by
  subst e1 e2
  refine s_eqB rfl rfl (show _ = some (decide (i = j)) from ?_) h
  show some (decide (V.int i = V.int j)) = _
  congr 1
  exact decide_eq_decide.mpr ⟨V.int.inj, congrArg _⟩
theorem s_eqS (e1 : x = .dat (.str z)) (e2 : y = .dat (.str u)) (h : Kc (.dat (.bl (if q then !decide (z = u) else decide (z = u)))) ρ) : fEq q x y ρ Kc := by
  subst e1 e2
  refine s_eqB rfl rfl (show _ = some (decide (z = u)) from ?_) h
  show some (decide (V.str z = V.str u)) = _
  congr 1
  exact decide_eq_decide.mpr ⟨V.str.inj, congrArg _⟩
theorem s_inS {cc : Nat} (e1 : x = .dat (.str z)) (e2 : y = .dat (.str u)) (e3 : z.cps.toList = [cc]) (h : Kc (.dat (.bl (if q then !decide (cc ∈ u.cps.toList) else decide (cc ∈ u.cps.toList)))) ρ) : fIn q x y ρ Kc := by
  subst e1 e2; unfold fIn; dsimp only; rw [e3]; exact h
theorem s_inQ (e1 : x = .dat d) (e2 : seqOf ρ y = some l) (f1 : flatD d = true) (f2 : l.all flatD = true) (h : Kc (.dat (.bl (if q then !inD d l else inD d l))) ρ) : fIn q x y ρ Kc := by
  subst e1
  unfold fIn
  split
  · cases e2
  · rename_i q0 q1; cases q0; rw [e2]; exact ⟨f1, f2, h⟩
  · rename_i q1 q2; first | exact (q1 _ rfl).elim | exact (q2 _ _ rfl rfl).elim
theorem s_inD (e1 : x = .dat d) (e2 : dicOf ρ y = some kv) (e3 : keyOf d = some key) (h : Kc (.dat (.bl (if q then !(kv.any fun p => decide (p.1 = key)) else kv.any fun p => decide (p.1 = key)))) ρ) : fIn q x y ρ Kc := by
  subst e1
  have hs : seqOf ρ y = none := by
    unfold dicOf at e2
    split at e2
    · rfl
    · rename_i k; unfold seqOf; dsimp only; split
      · rename_i q; rw [q] at e2; cases e2
      · rfl
    · cases e2
  unfold fIn
  split
  · cases e2
  · rename_i q0 q1; cases q0; rw [hs, e2, e3]; exact h
  · rename_i q1 q2; first | exact (q1 _ rfl).elim | exact (q2 _ _ rfl rfl).elim
theorem s_isN (e2 : y = .dat .non) (h : Kc (.dat (.bl (match x with | .dat .non => !q | _ => q))) ρ) : fIsN q x y ρ Kc := by
  subst e2
  cases x with
  | dat d => cases d <;> exact h
  | res k => exact h
theorem s_lenQ (e : seqOf ρ x = some l) (h : Kc (.dat (.int l.length)) ρ) : fLen [x] ρ Kc := by
  unfold fLen
  split
  · rename_i q; cases q; cases e
  · rename_i q; cases q; rw [e]; exact h
  · rename_i q1 q2; exact (q2 _ rfl).elim
theorem s_lenS (e : x = .dat (.str z)) (hl : z.length ≤ sizeLine) (h : Kc (.dat (.int z.length)) ρ) : fLen [x] ρ Kc := by subst e; exact ⟨hl, h⟩
theorem s_lenD (e : dicOf ρ x = some kv) (h : Kc (.dat (.int kv.length)) ρ) : fLen [x] ρ Kc := by
  have hs : seqOf ρ x = none := by
    unfold dicOf at e
    split at e
    · rfl
    · rename_i k; unfold seqOf; dsimp only; split
      · rename_i q; rw [q] at e; cases e
      · rfl
    · cases e
  unfold fLen
  split
  · rename_i q; cases q; cases e
  · rename_i q; cases q; rw [hs, e]; exact h
  · rename_i q1 q2; exact (q2 _ rfl).elim
theorem s_intI (e : x = .dat (.int i)) (h : Kc (.dat (.int i)) ρ) : fInt [x] ρ Kc := by subst e; exact h
theorem s_intB (e : x = .dat (.bl bb)) (h : Kc (.dat (.int (if bb then 1 else 0))) ρ) : fInt [x] ρ Kc := by subst e; exact h
theorem s_absI (e : x = .dat (.int i)) (h : Kc (.dat (.int (i.natAbs : Int))) ρ) : fAbs [x] ρ Kc := by subst e; exact h
theorem s_tupT (e : x = .dat (.tup l)) (h : Kc (.dat (.tup l)) ρ) : fTuple [x] ρ Kc := by subst e; exact h
theorem s_tupL (e : lsOf ρ x = some l) (h : Kc (.dat (.tup l)) ρ) : fTuple [x] ρ Kc := by
  unfold fTuple
  split
  · rename_i q; cases q; cases e
  · rename_i q; cases q; rw [e]; exact h
  · rename_i q1 q2; exact (q2 _ rfl).elim
theorem s_list (e : seqOf ρ x = some l) (h : Kc (.res ρ.length) (ρ ++ [.lst l])) : fList [x] ρ Kc := by unfold fList; dsimp only; rw [e]; exact h
theorem s_isi {nm t : String} (e : y = .dat (.ty nm)) (hn : nm ∈ tyNames) (e2 : tyD ρ x = some t) (h : Kc (.dat (.bl (t == nm || (t == "bool" && nm == "int")))) ρ) : fIsi [x, y] ρ Kc := by
  subst e; refine ⟨hn, ?_⟩; rw [e2]; exact h
theorem s_all {bs : List Bool} (e : lsOf ρ x = some l) (e2 : l.map blOf = bs.map some) (h : Kc (.dat (.bl (bs.all id))) ρ) : fAll [x] ρ Kc := by unfold fAll; dsimp only; rw [e]; exact ⟨bs, e2, h⟩
theorem s_slS {lo hi : Option Int} (e : x = .dat (.str z)) (hl : z.length ≤ sizeLine) (h : Kc (.dat (.str (cutS z lo hi))) ρ) : fSl x lo hi ρ Kc := by subst e; exact ⟨hl, h⟩
theorem s_slT {lo hi : Option Int} (e : x = .dat (.tup l)) (h : Kc (.dat (.tup (cutD l lo hi))) ρ) : fSl x lo hi ρ Kc := by subst e; exact h
theorem s_slL {lo hi : Option Int} (e : lsOf ρ x = some l) (h : Kc (.res ρ.length) (ρ ++ [.lst (cutD l lo hi)])) : fSl x lo hi ρ Kc := by
  unfold fSl
  split
  · cases e
  · cases e
  · rw [e]; exact h
theorem s_app (e : x = .res k) (h : frz ρ s fun d ρ1 => ∃ l, ρ1[k]? = some (.lst l) ∧ l.length < sizeLine ∧ Kc (.dat .non) (ρ1.set k (.lst (l ++ [d])))) : fAppend x [s] ρ Kc := by
  subst e
  refine frz_mono (fun d ρ1 z => ?_) h
  obtain ⟨l, z1, z2, z3⟩ := z
  rw [z1]
  exact ⟨z2, z3⟩
theorem s_appD (e : x = .res k) (e2 : s = .dat d) (e3 : ρ[k]? = some (.lst l)) (hl : l.length < sizeLine) (h : Kc (.dat .non) (ρ.set k (.lst (l ++ [d])))) : fAppend x [s] ρ Kc := s_app e (by subst e2; exact ⟨l, e3, hl, h⟩)
/-! loops -/
theorem s_for (h : it ⟨δ, ρ⟩ fun items gd ρ1 => gd ρ1 ∧ aLoop g sa gd ⟨nx, rt, bk, ct⟩ items ⟨δ, ρ1⟩) : aFor it g sa ⟨nx, rt, bk, ct⟩ ⟨δ, ρ⟩ := h
theorem s_iVT (e : δ[n]? = some (some s)) (e2 : nrm ρ s = .dat (.tup l)) (h : Ki l (fun _ => True) ρ) : iAnyA (aVar n) ⟨δ, ρ⟩ Ki := by unfold iAnyA; exact s_var e e2 h
theorem s_iVS (e : δ[n]? = some (some s)) (e2 : nrm ρ s = .dat (.str z)) (h : Ki (chD z) (fun _ => True) ρ) : iAnyA (aVar n) ⟨δ, ρ⟩ Ki := by unfold iAnyA; exact s_var e e2 h
theorem s_iVL (e : δ[n]? = some (some s)) (e2 : nrm ρ s = x) (e3 : lsOf ρ x = some l) (h : Ki l (still x l) ρ) : iAnyA (aVar n) ⟨δ, ρ⟩ Ki := by
  unfold iAnyA
  refine s_var e e2 ?_
  split
  · cases e3
  · cases e3
  · rw [e3]; exact h
theorem s_iL (h : a ⟨δ, ρ⟩ (kLst Ki)) : iLstA a ⟨δ, ρ⟩ Ki := h
theorem s_kLst (e : lsOf ρ x = some l) (h : Ki l (still x l) ρ) : kLst Ki x ρ := by unfold kLst; rw [e]; exact h
theorem s_iT (h : a ⟨δ, ρ⟩ (kTup Ki)) : iTupA a ⟨δ, ρ⟩ Ki := h
theorem s_kTup (e : x = .dat (.tup l)) (h : Ki l (fun _ => True) ρ) : kTup Ki x ρ := by subst e; exact h
theorem s_iS (h : a ⟨δ, ρ⟩ (kStr Ki)) : iStrA a ⟨δ, ρ⟩ Ki := h
theorem s_kStr (e : x = .dat (.str z)) (h : Ki (chD z) (fun _ => True) ρ) : kStr Ki x ρ := by subst e; exact h
theorem s_iR (h : la ⟨δ, ρ⟩ (kRng1 Ki)) : iRng1A la ⟨δ, ρ⟩ Ki := h
theorem s_kRng (e : x = .dat (.int j)) (h1 : -(2 ^ 62) ≤ j) (h2 : j < 2 ^ 62) (h : Ki (rngD 0 j.toNat) (fun _ => True) ρ) : kRng1 Ki [x] ρ := by subst e; exact ⟨h1, h2, h⟩
/-- a loop by what holds ahead of each item -/
theorem loop_inv {st : ASt} {gd : List Res → Prop} {items : List D} (I : List D → ASt → Prop) (h0 : I items st) (hs : ∀ d r st (N : ASt → Prop), (∀ st2, I r st2 → N st2) → I (d :: r) st → g (.dat d) st fun st1 => sa ⟨fun st2 => gd st2.ρ ∧ N st2, rt, nx, fun st2 => gd st2.ρ ∧ N st2⟩ st1)
    (hd : ∀ st, I [] st → nx st) : aLoop g sa gd ⟨nx, rt, bk, ct⟩ items st := by
  induction items generalizing st with
  | nil => exact hd st h0
  | cons d r ih => exact hs d r st _ (fun st2 h => ih h) h0
/-- the same by the number of items behind -/
theorem loop_at {st : ASt} {gd : List Res → Prop} {items : List D} (I : Nat → ASt → Prop) (h0 : I 0 st) (hs : ∀ i d st (N : ASt → Prop), items[i]? = some d → (∀ st2, I (i + 1) st2 → N st2) → I i st → g (.dat d) st fun st1 => sa ⟨fun st2 => gd st2.ρ ∧ N st2, rt, nx, fun st2 => gd st2.ρ ∧ N st2⟩ st1)
    (hd : ∀ st, I items.length st → nx st) : aLoop g sa gd ⟨nx, rt, bk, ct⟩ items st := by
  refine loop_inv (fun r st => ∃ i, r = items.drop i ∧ i ≤ items.length ∧ I i st) ⟨0, rfl, Nat.zero_le _, h0⟩ (fun d r st N hN hI => ?_) (fun st hI => ?_)
  · obtain ⟨i, e, hi, hI⟩ := hI
    have hlt : i < items.length := by
      rcases Nat.lt_or_ge i items.length with z | z
      · exact z
      · rw [List.drop_eq_nil_of_le z] at e; cases e
    rw [List.drop_eq_getElem_cons hlt] at e
    injection e with e1 e2
    exact hs i d st N (by rw [e1]; exact List.getElem?_eq_getElem hlt) (fun st2 h2 => hN st2 ⟨i + 1, e2, hlt, h2⟩) hI
  · obtain ⟨i, e, hi, hI⟩ := hI
    have : i = items.length := by
      have := congrArg List.length e
      rw [List.length_drop] at this
      simp at this
      omega
    subst this
    exact hd st hI
/-! comprehensions -/
/-- each item gives one, and nothing else happens -/
theorem s_lcMap {st : ASt} {vs : List Nat} (fm : D → D) (hi : it st fun items gd ρ1 => (∀ ρ', gd ρ1 → gd (ρ1 ++ [ρ'])) ∧ gd ρ1 ∧ items.length < sizeLine ∧
    (∀ d ∈ items, ∀ (acc : List D) (K : ASt → Prop), (∀ δ2, (∀ K' : AK, K' (.dat (fm d)) (ρ1 ++ [.lst acc]) → a ⟨δ2, ρ1 ++ [.lst acc]⟩ K') → K ⟨δ2, ρ1 ++ [.lst acc]⟩) → g (.dat d) ⟨aWipe st.δ vs, ρ1 ++ [.lst acc]⟩ K) ∧ Kc (.res ρ1.length) (ρ1 ++ [.lst (items.map fm)]))
    (mono : ∀ K K' : KI, (∀ a b c, K a b c → K' a b c) → it st K → it st K') : aLc it g aYes a vs st Kc := by
  refine mono _ _ (fun items gd ρ1 z => ?_) hi
  obtain ⟨g1, g2, hl, he, hk⟩ := z
  refine ⟨g1 _ g2, ?_⟩
  have key : ∀ (r acc : List D), (∀ d ∈ r, d ∈ items) → acc.length + r.length < sizeLine → Kc (.res ρ1.length) (ρ1 ++ [.lst (acc ++ r.map fm)]) → aLcL g aYes a (aWipe st.δ vs) ρ1.length gd Kc r (ρ1 ++ [.lst acc]) := by
    intro r
    induction r with
    | nil =>
      intro acc _ _ hk
      rw [List.map_nil, List.append_nil] at hk
      exact hk
    | cons d r ih =>
      intro acc hm hlen hk
      refine he d (hm d List.mem_cons_self) acc (fun st1 => aYes st1 fun b ρ2 => if b = true then a ⟨st1.δ, ρ2⟩ fun s ρ3 => frz ρ3 (nrm ρ3 s) fun x ρ4 => ∃ acc, ρ4[ρ1.length]? = some (.lst acc) ∧ acc.length < sizeLine ∧ gd (ρ4.set ρ1.length (.lst (acc ++ [x]))) ∧ aLcL g aYes a (aWipe st.δ vs) ρ1.length gd Kc r (ρ4.set ρ1.length (.lst (acc ++ [x]))) else gd ρ2 ∧ aLcL g aYes a (aWipe st.δ vs) ρ1.length gd Kc r ρ2) fun δ2 ha => ?_
      dsimp only [aYes]
      rw [if_pos rfl]
      refine ha _ ?_
      show frz _ (.dat (fm d)) _
      refine ⟨acc, last_get _ _, by rw [List.length_cons] at hlen; omega, ?_, ?_⟩
      · rw [set_last]; exact g1 _ g2
      · rw [set_last]
        refine ih (acc ++ [fm d]) (fun x hx => hm x (List.mem_cons_of_mem _ hx)) (by rw [List.length_append]; rw [List.length_cons] at hlen; simp; omega) ?_
        rw [List.append_assoc]
        exact hk
  have := key items [] (fun d hd => hd) (by simpa using hl) (by simpa using hk)
  exact this
end
end An
namespace An
open PySem PySem.Spec PyProof.Rows L2 Ov
section
variable {Kc : AK} {ρ ρio : List Res} {ks : List Nat} {ss : List Sl} {Kds : List D → List Res → Prop} {k : Nat} {r : Res} {d : D}
theorem s_tupE (hl : ss.length ≤ sizeLine) (h : frzs ρ ss Kds) : ss.length ≤ sizeLine ∧ frzs ρ ss Kds := ⟨hl, h⟩
theorem s_argsE {Q : Res → Prop} (h1 : k ∉ ks) (h2 : ρ[k]? = some r) (h : Q r) : k ∉ ks ∧ ∃ r, ρ[k]? = some r ∧ Q r := ⟨h1, r, h2, h⟩
theorem s_doneD (h : Kc (.dat d) (setAll ρ ks ρio)) : aDone ks ρ Kc (.dat d) ρio := h
theorem s_doneR (h : Kc (.res ρ.length) (setAll ρ ks ρio ++ [r])) : aDone ks ρ Kc (.res r) ρio := h
end
end An
namespace An
open PySem PySem.Spec PyProof.Rows L2 Ov
theorem iAnyV_mono {n : Nat} {st : ASt} (K K' : KI) (m : ∀ a b c, K a b c → K' a b c) (h : iAnyA (aVar n) st K) : iAnyA (aVar n) st K' := by
  unfold iAnyA aVar at h ⊢
  split at h
  · split at h
    · exact m _ _ _ h
    · exact m _ _ _ h
    · split at h
      · exact m _ _ _ h
      · exact h.elim
  · exact h.elim
end An

set_option Elab.async false
set_option linter.all false
set_option maxRecDepth 100000
namespace Ov
open PySem PySem.Spec PyProof.Rows L2
section
variable {X : Cx} {CX : CXT} {k : Nat} {C : Addr} {ps : List Str} {sp : Sp} {E : L2.St → XK} {o i : Expr} {to ti : TE} {pos : Pos}
/-- o[i] = v of an own class whose method may raise -/
def gSubS (to ti : TE) (C : Addr) (sp : Sp) (E : L2.St → XK) : TG := fun v σ H Q => to σ H fun o H1 => ti σ H1 fun i H2 => ∃ a dx fs, o = .ref a ∧ H2 a = some (.ins C dx fs) ∧ sp [.ref a, i, v] H2 (fun _ H' => Q σ H') (E σ)
theorem pg_subS (h1 : PE X o to) (h2 : PE X i ti) (M : MCal X.prog X.w X.K X.mg X.base CX k C "__setitem__" ps sp) (hr : Room k X.A) (hq : PySem.W.noSeq X.K C = true) (hx : ∀ σ, PassesAt CX X σ (E σ))
    (run : ∀ u, assign (.Subscript o i pos) X.env u = (do let p ← holding [u] (eval o X.env); let q ← holding [u, p] (eval i X.env); standAt pos; holding [u, p, q] (setItem p q u); release [u, p, q] []) := by intro _; rfl) :
    PG X (.Subscript o i pos) (gSubS to ti C sp E) := by
  constructor
  intro pins s σ H x u Q inv rx h
  rw [run]
  refine wpAny_bind (wpAny_holding ?_)
  refine thn (h1.run pins s σ H _ inv h) ?_
  rintro p t1 ⟨xo, G1, inv1, ro, h⟩
  refine wpAny_bind (wpAny_holding ?_)
  refine thn (h2.run pins t1 σ G1 _ inv1 h) ?_
  rintro q t2 ⟨xi, G2, inv2, ri, h⟩
  refine wpAny_bind (wpAny_standAt ?_)
  refine wpAny_bind (wpAny_holding ?_)
  obtain ⟨a, dx, fs, rfl, ha, h⟩ := h
  obtain rfl : p = Value.ref a := ro
  obtain ⟨g, gd, F, hm, bb, fi⟩ := M
  obtain ⟨mA, J, _⟩ := ins_get inv2.hok ha
  obtain ⟨od, J, _⟩ := J.look
  obtain ⟨mm, hF⟩ := inv2.fr
  refine PySem.W.ksp_setItem hF inv2.ok.mod.kin J hq hm.at_ hm.fn ?_
  refine wpAny_mono (run_atS (A := X.A) (vs := [.ref a, xi, x]) F hr rfl bb (hx σ) inv2 (.cons rfl (.cons ri (.cons rx .nil))) h) (fun r t3 z => ?_) fun _ _ z => z
  obtain ⟨_, G3, inv3, _, z⟩ := z
  exact wpAny_release ⟨σ, G3, inv3, z⟩
/-- o[i] of an own class whose method may raise -/
def tIxS (C : Addr) (sp : Sp) (E : L2.St → XK) (ta tb : TE) : TE := fun σ H Q => ta σ H fun x H1 => tb σ H1 fun y H2 => ∃ a dx fs, x = .ref a ∧ H2 a = some (.ins C dx fs) ∧ sp [.ref a, y] H2 Q (E σ)
theorem pe_ixS {a b : Expr} {ta tb : TE} (M : MCal X.prog X.w X.K X.mg X.base CX k C "__getitem__" ps sp) (hr : Room (k + 1) X.A) (hx : ∀ σ, PassesAt CX X σ (E σ)) (ha : PE X a ta) (hb : PE X b tb)
    (hs : ∀ u v, subscripted b true u v = runValue (.builtin "lifetime.subscript" ⟨[u, v], []⟩) := by intro _ _; with_unfolding_all rfl) : PE X (.Subscript a b pos) (tIxS C sp E ta tb) := by
  constructor
  intro pins s σ H Q inv h
  refine Subscript_ (binT (R := fun x y H2 => ∃ a dx fs, x = .ref a ∧ H2 a = some (.ins C dx fs) ∧ sp [.ref a, y] H2 Q (E σ)) ha hb inv h ?_)
  intro v u t x y G J0 rx ry q
  obtain ⟨a, dx, fs, rfl, hi, h⟩ := q
  obtain rfl : v = Value.ref a := rx
  obtain ⟨f, fd, F, hm, bb, fi⟩ := M
  obtain ⟨mA, J, _⟩ := ins_get J0.hok hi
  obtain ⟨od, J, _⟩ := J.look
  obtain ⟨mm, hF⟩ := J0.fr
  exact PySem.W.sub_K hF J0.ok.mod.kin J hm.at_ fi hm.fn (run_atS (A := X.A.in1) (vs := [.ref a, y]) F hr.in1 rfl bb (hx σ) J0 (.cons rfl (.cons ry .nil)) h) (hs _ _)
end
end Ov
namespace An
open PySem PySem.Spec PyProof.Rows L2 Ov
section
variable {K : PySem.W.Frag} {w0 : W}
/-- what is wished for an error, by the slots -/
abbrev XS := List (Option Sl) → XA
def XSOk (K : PySem.W.Frag) (w0 : W) (E : L2.St → XK) (X : XS) : Prop := ∀ w δ σ, Le w0 w → RE K w δ σ → XOk K w (E σ) (X δ)
theorem xsok {E : XK} {X : XA} (h : XOk K w0 E X) : XSOk K w0 (fun _ => E) (fun _ => X) := fun w δ σ l r c f d ρ w' dd v hx l' => h c f d ρ w' dd v hx (l.trans l')
theorem xsok0 {E : L2.St → XK} : XSOk K w0 E (fun _ => X0) := fun _ _ _ _ _ => xok0
def aSubS (C : Addr) (F : AF) (X : XS) (ao ai : ATE) : ATG := fun s st Kc => ao st fun o ρ1 => ai ⟨st.δ, ρ1⟩ fun i ρ2 => (∃ fs, fldOf C ρ2 (nrm ρ2 o) = some fs) ∧ aFn [true, false, false] F (X st.δ) [nrm ρ2 o, i, nrm ρ2 s] ρ2 fun _ ρ3 => Kc ⟨st.δ, ρ3⟩
theorem sim_subS {C : Addr} {F : AF} {E : L2.St → XK} {X : XS} {to ti : TE} {ao ai : ATE} (hX : XSOk K w0 E X) (h1 : SimE K w0 to ao) (h2 : SimE K w0 ti ai) : SimG K w0 (gSubS to ti C (Conc K F) E) (aSubS C F X ao ai) := by
  intro w st σ v s Q Kc l r e h hk k
  refine h1 w st σ _ _ l r e hk fun o ρ1 w1 ov h1' l1 r1 q1 => ?_
  refine h2 w1 ⟨st.δ, ρ1⟩ σ _ _ (l.trans l1) q1 (e.mono l1) h1' fun i ρ2 w2 iv h2' l2 r2 q2 => ?_
  obtain ⟨⟨fs, e1⟩, h3⟩ := h2'
  have ro := (r1.mono l2).nrm q2
  obtain ⟨b', dx, xs, rfl, hx, q⟩ := fld_of q2 ro e1
  have L := l1.trans l2
  exact ⟨b', dx, xs, rfl, hx, call_ok (.refl w2) (hX w2 st.δ σ (l.trans L) (e.mono L)) q2 (.cons ro (.cons r2 (.cons ((h.mono L).nrm q2) .nil))) h3 fun s' ρ' w' v' h4 l4 r4 q4 => k _ _ w' h4 (L.trans l4) q4 (e.mono (L.trans l4))⟩
def aIxS (C : Addr) (F : AF) (X : XS) (a b : ATE) : ATE := fun st Kc => a st fun x ρ1 => b ⟨st.δ, ρ1⟩ fun y ρ2 => (∃ fs, fldOf C ρ2 (nrm ρ2 x) = some fs) ∧ aFn [true, false] F (X st.δ) [nrm ρ2 x, y] ρ2 Kc
theorem sim_ixS {C : Addr} {F : AF} {E : L2.St → XK} {X : XS} {ta tb : TE} {a b : ATE} (hX : XSOk K w0 E X) (h1 : SimE K w0 ta a) (h2 : SimE K w0 tb b) : SimE K w0 (tIxS C (Conc K F) E ta tb) (aIxS C F X a b) := by
  intro w st σ Q Kc l r e h k
  refine h1 w st σ _ _ l r e h fun o ρ1 w1 ov h1' l1 r1 q1 => ?_
  refine h2 w1 ⟨st.δ, ρ1⟩ σ _ _ (l.trans l1) q1 (e.mono l1) h1' fun i ρ2 w2 iv h2' l2 r2 q2 => ?_
  obtain ⟨⟨fs, e1⟩, h3⟩ := h2'
  have ro := (r1.mono l2).nrm q2
  obtain ⟨b', dx, xs, rfl, hx, q⟩ := fld_of q2 ro e1
  have L := l1.trans l2
  exact ⟨b', dx, xs, rfl, hx, call_ok (.refl w2) (hX w2 st.δ σ (l.trans L) (e.mono L)) q2 (.cons ro (.cons r2 .nil)) h3 fun s' ρ' w' v' h4 l4 r4 q4 => k _ _ w' v' h4 (L.trans l4) r4 q4⟩
/-! #### fields, step by step -/
theorem fld_res {C : Addr} {ρ : List Res} {k : Nat} {fs : List (Str × An.D)} (h : ρ[k]? = some (.ins C fs)) : fldOf C ρ (.res k) = some fs := by
  unfold fldOf; dsimp only; rw [h]; exact if_pos rfl
theorem fld_obj {C : Addr} {ρ : List Res} {fs : List (Str × An.D)} : fldOf C ρ (.dat (.obj C fs)) = some fs := by
  unfold fldOf; exact if_pos rfl
theorem lk_hd {f : Str} {a : An.D} {r : List (Str × An.D)} : List.lookup f ((f, a) :: r) = some a := by rw [List.lookup_cons, beq_self_eq_true]
theorem lk_2 {f g : Str} {a b : An.D} {r : List (Str × An.D)} (h : (f == g) = false := by decide +kernel) : List.lookup f ((g, b) :: (f, a) :: r) = some a := by rw [List.lookup_cons, h]; exact lk_hd
theorem lk_3 {f g g' : Str} {a b b' : An.D} {r : List (Str × An.D)} (h : (f == g) = false := by decide +kernel) (h' : (f == g') = false := by decide +kernel) : List.lookup f ((g, b) :: (g', b') :: (f, a) :: r) = some a := by rw [List.lookup_cons, h]; exact lk_2 h'
theorem lk_no2 {f g g' : Str} {b b' : An.D} (h : (f == g) = false := by decide +kernel) (h' : (f == g') = false := by decide +kernel) : List.lookup f [(g, b), (g', b')] = none := by rw [List.lookup_cons, h, List.lookup_cons, h']; rfl
theorem pf_nil {f : Str} {d : An.D} : putFD f d [] = [(f, d)] := rfl
theorem pf_hd {f : Str} {d x : An.D} {r : List (Str × An.D)} : putFD f d ((f, x) :: r) = (f, d) :: r := by unfold putFD; exact if_pos rfl
theorem pf_2 {f g : Str} {d x y : An.D} {r : List (Str × An.D)} (h : g ≠ f := by decide +kernel) : putFD f d ((g, y) :: (f, x) :: r) = (g, y) :: (f, d) :: r := by
  rw [putFD, if_neg h, pf_hd]
theorem pf_new {f g : Str} {d y : An.D} (h : g ≠ f := by decide +kernel) : putFD f d [(g, y)] = [(g, y), (f, d)] := by rw [putFD, if_neg h, pf_nil]
theorem s_kFldR {C : Addr} {f : Str} {Kc : AK} {x : Sl} {ρ : List Res} {k : Nat} {fs : List (Str × An.D)} {d : An.D} (e : x = .res k) (e2 : ρ[k]? = some (.ins C fs)) (e3 : fs.lookup f = some d) (h : Kc (.dat d) ρ) : kFld C f Kc x ρ := by
  subst e
  refine s_kFld (d := d) ?_ h
  rw [fld_res e2]
  exact e3
theorem s_kFldO {C : Addr} {f : Str} {Kc : AK} {x : Sl} {ρ : List Res} {fs : List (Str × An.D)} {d : An.D} (e : x = .dat (.obj C fs)) (e3 : fs.lookup f = some d) (h : Kc (.dat d) ρ) : kFld C f Kc x ρ := by
  subst e
  refine s_kFld (d := d) ?_ h
  rw [fld_obj]
  exact e3
theorem s_kSFldR {C : Addr} {f : Str} {Kr : List Res → Prop} {x : Sl} {ρ : List Res} {k : Nat} {fs fs' : List (Str × An.D)} {d : An.D} (e : x = .res k) (e2 : ρ[k]? = some (.ins C fs)) (hl : fs.length < 1000) (e3 : putFD f d fs = fs') (h : Kr (ρ.set k (.ins C fs'))) : kSFld C f Kr x d ρ :=
  s_kSFld e e2 hl (by rw [e3]; exact h)
/-! #### variables, as they are -/
theorem s_varD {n : Nat} {δ : List (Option Sl)} {ρ : List Res} {Kc : AK} {d : An.D} (e : δ[n]? = some (some (.dat d))) (h : Kc (.dat d) ρ) : aVar n ⟨δ, ρ⟩ Kc := s_var e rfl h
theorem s_varR {n k : Nat} {δ : List (Option Sl)} {ρ : List Res} {Kc : AK} {r : Res} (e : δ[n]? = some (some (.res k))) (e1 : ρ[k]? = some r) (e2 : (match r with | .fz _ => False | _ => True)) (h : Kc (.res k) ρ) : aVar n ⟨δ, ρ⟩ Kc := by
  refine s_var e (x := .res k) ?_ h
  unfold nrm
  cases r <;> first | (rw [e1]; done) | (dsimp only; rw [e1]; done) | (simp only [e1]; done) | exact e2.elim
theorem s_varF {n k : Nat} {δ : List (Option Sl)} {ρ : List Res} {Kc : AK} {d : An.D} (e : δ[n]? = some (some (.res k))) (e1 : ρ[k]? = some (.fz d)) (h : Kc (.dat d) ρ) : aVar n ⟨δ, ρ⟩ Kc := by
  refine s_var e (x := .dat d) ?_ h
  unfold nrm
  dsimp only
  rw [e1]
/-! #### try -/
/-- an error that the body may raise: its class, its field, the suite that takes it -/
structure Hd where
  c : Addr
  f : Str
  s : D → ATS
def aTry (i : Nat) (b : XS → ATS) (hs : List Hd) : ATS := fun A st => b (fun δ c f d ρ => ∃ h ∈ hs, h.c = c ∧ h.f = f ∧ h.s d ⟨fun st' => A.nx ⟨st'.δ.set i none, st'.ρ⟩, A.rt, fun st' => A.bk ⟨st'.δ.set i none, st'.ρ⟩, fun st' => A.ct ⟨st'.δ.set i none, st'.ρ⟩⟩ ⟨δ.set i none, ρ⟩) A st
/-- the suite of one error -/
def SimH (K : PySem.W.Frag) (w0 : W) (i : Nat) (l : List (Value × TX3)) (Wo : WX) (h : Hd) : Prop := ∀ (D : Ends) (A : AE) (w : W) (st : ASt) (σ : L2.St) (dd : Addr) (v : V) (e : An.D), Le w0 w → RsR K w st.ρ → RE K w st.δ σ → w.H dd = some (.xd [(h.f, v)]) → RV K w v e →
  h.s e A ⟨st.δ.set i none, st.ρ⟩ → EndsOk K w (Ends.gone D i) A → wManyAs K i Wo D l (.ref h.c) (some dd) σ w.H
theorem RE.non {w : W} {δ : List (Option Sl)} {σ : L2.St} (r : RE K w δ σ) (i : Nat) : RE K w (δ.set i none) (σ.set i none) := ⟨by rw [List.length_set, List.length_set, r.len], fun j t e => by
  by_cases hj : i = j
  · subst hj
    rw [List.getElem?_set, if_pos rfl] at e
    split at e <;> cases e
  · rw [List.getElem?_set_ne hj] at e
    obtain ⟨u, h1, h2⟩ := r.at_ j t e
    exact ⟨u, by rw [List.getElem?_set_ne hj]; exact h1, h2⟩⟩
theorem RE.hide {w : W} {δ : List (Option Sl)} {σ : L2.St} (r : RE K w δ σ) (i : Nat) (x : Option V) : RE K w (δ.set i none) (σ.set i x) := ⟨by rw [List.length_set, List.length_set, r.len], fun j t e => by
  by_cases hj : i = j
  · subst hj
    rw [List.getElem?_set, if_pos rfl] at e
    split at e <;> cases e
  · rw [List.getElem?_set_ne hj] at e
    obtain ⟨u, h1, h2⟩ := r.at_ j t e
    exact ⟨u, by rw [List.getElem?_set_ne hj]; exact h1, h2⟩⟩
theorem sim_try {i : Nat} {tb : WX → TS} {b : XS → ATS} {l : List (Value × TX3)} {Wo : WX} {hs : List Hd} (hb : ∀ w1 W X, Le w0 w1 → XSOk K w1 (fun σ c d H => W c d σ H) X → SimS K w1 (tb W) (b X)) (hh : ∀ h ∈ hs, SimH K w0 i l Wo h) :
    SimS K w0 (fun D σ H => tb (wManyAs K i Wo D l) D σ H) (aTry i b hs) := by
  intro w st σ D A lw r e h k
  refine hb w (wManyAs K i Wo D l) _ lw ?_ w st σ D A (.refl w) r e h k
  intro w1 δ σ1 l1 r1 c f d ρ w2 dd v hx l2 q2 hd hv
  obtain ⟨hdl, hm, rfl, rfl, hx⟩ := hx
  have L := l1.trans l2
  refine hh hdl hm D _ w2 ⟨δ, ρ⟩ σ1 dd v d (lw.trans L) q2 (r1.mono l2) hd hv hx ⟨fun st' σ' w' h l r e => ?_, fun s ρ' w' v h l r e => k.rt s ρ' w' v h (L.trans l) r e, fun st' σ' w' h l r e => ?_, fun st' σ' w' h l r e => ?_⟩
  · exact k.nx ⟨st'.δ.set i none, st'.ρ⟩ _ w' h (L.trans l) r (e.non i)
  · exact k.bk ⟨st'.δ.set i none, st'.ρ⟩ _ w' h (L.trans l) r (e.non i)
  · exact k.ct ⟨st'.δ.set i none, st'.ρ⟩ _ w' h (L.trans l) r (e.non i)
/-- return (word, e.field) if single(e) else () -/
def hdRet (i : Nat) (c : Addr) (f : Str) (word : Str) : Hd := ⟨c, f, fun d A st => i < st.δ.length ∧ A.rt (.dat (.tup [.str word, d])) st.ρ⟩
theorem suite_ret {D : Ends} {A : AE} {w : W} {st : ASt} {σ : L2.St} {i : Nat} {a C dd : Addr} {f word : Str} {v : V} {e : An.D} {sx : SpX} (r : RsR K w st.ρ) (hσ : σ[i]? = some (some (.ref a))) (hd : w.H dd = some (.xd [(f, v)])) (hv : RV K w v e)
    (hs : ∀ (Q : VK), Q (.bl true) w.H → sx a (.ref C) (some dd) [.ref a] w.H Q E0) (k : EndsOk K w D A) (h : A.rt (.dat (.tup [.str word, e])) st.ρ) :
    (tRet (tIf (tB (tCallX sx a (.ref C) (some dd) (tCons (tVar i) tNil))) (tTup (tCons (tC (.str word)) (tCons (tXf a (.ref C) (some dd) C f (tVar i)) tNil))) (tTup tNil))) D σ w.H := by
  show tIf _ _ _ σ w.H D.rt
  show tB (tCallX sx a (.ref C) (some dd) (tCons (tVar i) tNil)) σ w.H _
  refine ⟨.ref a, hσ, hs _ ⟨true, rfl, ?_⟩⟩
  show (if true = true then _ else _)
  rw [if_pos rfl]
  refine q_tup (q_cons (q_c (q_cons (q_var hσ ⟨rfl, rfl, dd, _, v, rfl, hd, by simp [List.lookup], q_nil ⟨by show 2 ≤ sizeLine; decide, fun t ht => ?_⟩⟩))))
  exact k.rt _ _ (w.fixed t _ ht) _ h (Le.fixed w t _ ht) (r.fixed ht) (show RV K _ _ _ from new_tup ht (.cons (.str _) (.cons hv .nil)))
theorem s_try {i : Nat} {b : XS → ATS} {hs : List Hd} {A : AE} {δ : List (Option Sl)} {ρ : List Res} (h : b (fun δ c f d ρ => ∃ h ∈ hs, h.c = c ∧ h.f = f ∧ h.s d ⟨fun st' => A.nx ⟨st'.δ.set i none, st'.ρ⟩, A.rt, fun st' => A.bk ⟨st'.δ.set i none, st'.ρ⟩, fun st' => A.ct ⟨st'.δ.set i none, st'.ρ⟩⟩ ⟨δ.set i none, ρ⟩) A ⟨δ, ρ⟩) : aTry i b hs A ⟨δ, ρ⟩ := h
theorem s_subS {C : Addr} {F : AF} {X : XS} {ao ai : ATE} {s : Sl} {δ : List (Option Sl)} {ρ : List Res} {Ks : ASt → Prop} (h : ao ⟨δ, ρ⟩ fun o ρ1 => ai ⟨δ, ρ1⟩ fun i ρ2 => (∃ fs, fldOf C ρ2 (nrm ρ2 o) = some fs) ∧ aFn [true, false, false] F (X δ) [nrm ρ2 o, i, nrm ρ2 s] ρ2 fun _ ρ3 => Ks ⟨δ, ρ3⟩) : aSubS C F X ao ai s ⟨δ, ρ⟩ Ks := h
theorem s_ixS2 {C : Addr} {F : AF} {X : XS} {a b : ATE} {δ : List (Option Sl)} {ρ : List Res} {Kc : AK} (h : a ⟨δ, ρ⟩ fun x ρ1 => b ⟨δ, ρ1⟩ fun y ρ2 => (∃ fs, fldOf C ρ2 (nrm ρ2 x) = some fs) ∧ aFn [true, false] F (X δ) [nrm ρ2 x, y] ρ2 Kc) : aIxS C F X a b ⟨δ, ρ⟩ Kc := h
theorem set_at {σ : L2.St} {i : Nat} {x : Option V} (h : i < σ.length) : (σ.set i x)[i]? = some x := by
  rw [List.getElem?_set, if_pos rfl, if_pos h]
/-- the suite of an error is reached -/
theorem simH_ret {K : PySem.W.Frag} {w0 : W} {i : Nat} {l : List (Value × TX3)} {Wo : WX} {c : Addr} {f word : Str} {sx : SpX}
    (hw : ∀ (D : Ends) (dd : Addr) (σ : L2.St) (H : Hp), (∀ a, H a = none → (tRet (tIf (tB (tCallX sx a (.ref c) (some dd) (tCons (tVar i) tNil))) (tTup (tCons (tC (.str word)) (tCons (tXf a (.ref c) (some dd) c f (tVar i)) tNil))) (tTup tNil))) (Ends.gone D i) (σ.set i (some (.ref a))) H) → wManyAs K i Wo D l (.ref c) (some dd) σ H)
    (hs : ∀ (a dd : Addr) (v : V) (H : Hp) (Q : VK), H dd = some (.xd [(f, v)]) → Q (.bl true) H → sx a (.ref c) (some dd) [.ref a] H Q E0) : SimH K w0 i l Wo (hdRet i c f word) := by
  intro D A w st σ dd v e _ r re hd hv hx k
  obtain ⟨hi, hx⟩ := hx
  refine hw D dd σ w.H fun a _ => suite_ret (st := ⟨st.δ.set i none, st.ρ⟩) r (set_at ?_) hd hv (fun Q q => hs a dd v w.H Q hd q) k hx
  rw [List.length_set] at hi
  rw [re.len]
  exact hi
end
end An

set_option Elab.async false
set_option linter.all false
set_option maxRecDepth 100000
namespace An
open PySem PySem.Spec PyProof.Rows L2 Ov
/-! #### what a turn of a loop leaves behind is fixed and forgotten -/
def trimS (n : Nat) (ρ : List Res) : Sl → Option Sl
  | .dat d => some (.dat d)
  | .res k => if k < n then some (.res k) else ((ρ[k]?).bind Res.data).map .dat
def trim (n : Nat) (st : ASt) : ASt := ⟨st.δ.map fun o => o.bind (trimS n st.ρ), st.ρ.take n⟩
def W.cut (w : W) (n : Nat) : W where
  G := fun a => w.G a ∨ a ∈ w.as.drop n
  as := w.as.take n
  H := w.H
  nd := w.nd.sublist (List.take_sublist _ _)
  live := fun a h => h.elim (w.live a) fun z => w.alive a (List.mem_of_mem_drop z)
  alive := fun a h => w.alive a (List.mem_of_mem_take h)
theorem Le.cut {w1 w : W} (l : Le w1 w) {n : Nat} (hn : n = w1.as.length) : Le w1 (w.cut n) := by
  subst hn
  obtain ⟨m, em⟩ := l.pre
  have et : w.as.take w1.as.length = w1.as := by rw [em, List.take_left']; rfl
  refine ⟨l.kG, fun a o h na => l.k a o h na, l.al, fun a h => .inl (l.g1 a h), fun a h => ?_, fun a h => ?_, [], ?_⟩
  · rcases h with h | h
    · exact l.g2 a h
    · rcases l.as1 a (List.mem_of_mem_drop h) with z | z
      · exact .inr (.inr z)
      · exact .inr (.inl z)
  · have h' : a ∈ w.as.take w1.as.length := h
    rw [et] at h'
    exact .inl h'
  · show w.as.take w1.as.length = _
    rw [et, List.append_nil]
section
variable {K : PySem.W.Frag} {w0 : W}
theorem RV.cut {w : W} {n : Nat} {v : V} {d : D} (h : RV K w v d) : RV K (w.cut n) v d := RV.monoG (w := w) (w' := w.cut n) (fun _ _ => rfl) (fun _ g => Or.inl g) h
theorem cut_sep {w : W} {n : Nat} {a : Addr} (h : a ∈ w.as.take n) : a ∉ w.as.drop n := by
  intro z
  have e : w.as = w.as.take n ++ w.as.drop n := (List.take_append_drop n w.as).symm
  have nd := w.nd
  rw [e, List.nodup_append] at nd
  exact nd.2.2 a h a z rfl
theorem RR.cut {w : W} {n : Nat} {a : Addr} {x : Res} (h : RR K w a x) (m : a ∈ w.as.take n) : RR K (w.cut n) a x := by
  have ng : ¬ w.G a → ¬ (w.cut n).G a := fun h z => z.elim h (cut_sep m)
  have kG : ∀ b, w.G b → (w.cut n).H b = w.H b := fun _ _ => rfl
  have g1 : ∀ b, w.G b → (w.cut n).G b := fun _ g => .inl g
  cases x with
  | lst ds => obtain ⟨h0, xs, h1, h2⟩ := h; exact ⟨ng h0, xs, h1, h2.monoG kG g1⟩
  | dic ds => obtain ⟨h0, xs, h1, h2⟩ := h; exact ⟨ng h0, xs, h1, h2.monoG kG g1⟩
  | ins C ds => obtain ⟨h0, dx, xs, h1, h2⟩ := h; exact ⟨ng h0, dx, xs, h1, h2.monoG kG g1⟩
  | pool =>
    obtain ⟨h0, q, cs, x, y, z, u, h1, h2, ne, gl, b⟩ := h
    exact ⟨ng h0, q, cs, x, y, z, u, h1, h2, ne, .inl gl, b⟩
  | fz d => exact RV.cut h
theorem RR.data_cut {w : W} {n : Nat} {a : Addr} {x : Res} {d : D} (h : RR K w a x) (m : a ∈ w.as.drop n) (e : x.data = some d) : RV K (w.cut n) (.ref a) d := by
  have kG : ∀ b, w.G b → (w.cut n).H b = w.H b := fun _ _ => rfl
  have g1 : ∀ b, w.G b → (w.cut n).G b := fun _ g => .inl g
  cases x with
  | lst ds =>
    cases e
    obtain ⟨_, xs, h1, h2⟩ := h
    exact .lst (fun H' e => .inl (.inl (by rw [e (.inr m)]; exact h1))) (h2.monoG kG g1)
  | dic ds => cases e; obtain ⟨_, xs, h1, h2⟩ := h; exact .dct (.inr m) h1 (h2.monoG kG g1)
  | ins C ds => cases e; obtain ⟨_, dx, xs, h1, h2⟩ := h; exact .obj (.inr m) h1 (h2.monoG kG g1)
  | pool => cases e
  | fz e' => cases e; exact RV.cut h
theorem RsR.cut {w : W} {ρ : List Res} (r : RsR K w ρ) (n : Nat) : RsR K (w.cut n) (ρ.take n) := by
  refine ⟨by show _ = (w.as.take n).length; rw [List.length_take, List.length_take, r.len], fun k a x h1 h2 => ?_⟩
  have h1' : (w.as.take n)[k]? = some a := h1
  have m := List.mem_of_getElem? h1'
  rw [List.getElem?_take] at h1' h2
  split at h1'
  · rename_i hk
    rw [if_pos hk] at h2
    exact (r.at_ k a x h1' h2).cut m
  · cases h1'
theorem RE.cut {w : W} {st : ASt} {σ : L2.St} (r : RsR K w st.ρ) (e : RE K w st.δ σ) (n : Nat) : RE K (w.cut n) (trim n st).δ σ := by
  refine ⟨by show _ = (st.δ.map _).length; rw [List.length_map, e.len], fun i s h => ?_⟩
  have h' : (st.δ.map fun o => o.bind (trimS n st.ρ))[i]? = some (some s) := h
  rw [List.getElem?_map] at h'
  obtain ⟨o, ho, h2⟩ := Option.map_eq_some_iff.mp h'
  obtain ⟨s0, rfl, h3⟩ := Option.bind_eq_some_iff.mp h2
  obtain ⟨v, hv, rv⟩ := e.at_ i s0 ho
  refine ⟨v, hv, ?_⟩
  cases s0 with
  | dat d => cases h3; exact RV.cut rv
  | res k =>
    obtain ⟨a, ha, rfl⟩ := rv
    unfold trimS at h3
    dsimp only at h3
    split at h3
    · rename_i hk
      cases h3
      exact ⟨a, by show (w.as.take n)[k]? = some a; rw [List.getElem?_take, if_pos hk]; exact ha, rfl⟩
    · rename_i hk
      obtain ⟨d, hd, rfl⟩ := Option.map_eq_some_iff.mp h3
      obtain ⟨x, hx, hd⟩ := Option.bind_eq_some_iff.mp hd
      have m : a ∈ w.as.drop n := List.mem_of_getElem? (i := k - n) (by rw [List.getElem?_drop, show n + (k - n) = k by omega]; exact ha)
      exact (show RV K (w.cut n) (.ref a) d from (r.at_ k a x ha hx).data_cut m hd)
def aLoopT (n : Nat) (g : ATG) (b : ATS) (gd : List Res → Prop) (A : AE) : List D → ASt → Prop
  | [], st => A.nx st
  | d :: r, st => g (.dat d) st fun st1 => b { A with nx := fun st2 => gd (trim n st2).ρ ∧ aLoopT n g b gd A r (trim n st2), ct := fun st2 => gd (trim n st2).ρ ∧ aLoopT n g b gd A r (trim n st2), bk := fun st2 => A.nx (trim n st2) } st1
def aForT (it : AIt) (g : ATG) (b : ATS) : ATS := fun A st => it st fun items gd ρ1 => gd ρ1 ∧ aLoopT ρ1.length g b gd A items ⟨st.δ, ρ1⟩
theorem sim_forT {wi : TI} {g : TG} {t : TS} {it : AIt} {ag : ATG} {b : ATS} (hi : SimI K w0 wi it) (hg : SimG K w0 g ag) (hb : SimS K w0 t b) : SimS K w0 (tFor wi g t) (aForT it ag b) := by
  intro w st σ D A l r e h k
  refine hi w st σ _ _ l r e h fun items gd ρ1 w1 J hk l1 r1 ok => ?_
  have en : ρ1.length = w1.as.length := r1.len
  refine ⟨fun i m σ H => ∃ w' st', w'.H = H ∧ Le w1 w' ∧ RsR K w' st'.ρ ∧ RE K w' st'.δ σ ∧ i ≤ items.length ∧ m = items.length - i ∧ gd st'.ρ ∧ aLoopT ρ1.length ag b gd A (items.drop i) st', ⟨items.length, w1, ⟨st.δ, ρ1⟩, rfl, .refl w1, r1, e.mono l1, Nat.zero_le _, by omega, hk.1, by rw [List.drop_zero]; exact hk.2⟩, ?_⟩
  rintro i m σ H ⟨w', st', rfl, l2, r2, e2, hi, hm, g2, lp⟩
  by_cases hlt : i < items.length
  · have hd := List.getElem?_eq_getElem hlt
    obtain ⟨go, yl⟩ := ok.item w' st'.ρ i _ l2 r2 g2 hd
    rw [List.drop_eq_getElem_cons hlt] at lp
    refine .inr ⟨go, fun σ' H' => ∃ w'' st'', w''.H = H' ∧ Le w1 w'' ∧ RsR K w'' st''.ρ ∧ RE K w'' st''.δ σ' ∧ gd st''.ρ ∧ aLoopT ρ1.length ag b gd A (items.drop (i + 1)) st'', fun σ' H' ⟨w'', st'', z1, z2, z3, z4, z5, z6⟩ => ⟨items.length - (i + 1), by omega, w'', st'', z1, z2, z3, z4, hlt, rfl, z5, z6⟩, fun x H' y => ?_⟩
    obtain ⟨w3, l3, rfl, r3, rv⟩ := yl x H' y
    have L := l1.trans (l2.trans l3)
    refine hg w3 st' σ x _ _ _ (l.trans L) r3 (e2.mono l3) (show RS K w3 x (.dat _) from rv) lp fun st4 σ4 w4 h4 l4 r4 e4 => ?_
    have L4 := L.trans l4
    have back : ∀ (st5 : ASt) (σ5 : L2.St) (w5 : W), (gd (trim ρ1.length st5).ρ ∧ aLoopT ρ1.length ag b gd A (items.drop (i + 1)) (trim ρ1.length st5)) → Le w4 w5 → RsR K w5 st5.ρ → RE K w5 st5.δ σ5 →
        ∃ w'' st'', w''.H = w5.H ∧ Le w1 w'' ∧ RsR K w'' st''.ρ ∧ RE K w'' st''.δ σ5 ∧ gd st''.ρ ∧ aLoopT ρ1.length ag b gd A (items.drop (i + 1)) st'' := fun st5 σ5 w5 h5 l5 r5 e5 =>
      ⟨w5.cut ρ1.length, trim ρ1.length st5, rfl, (l2.trans (l3.trans (l4.trans l5))).cut en, r5.cut _, RE.cut r5 e5 _, h5.1, h5.2⟩
    refine hb w4 st4 σ4 _ _ (l.trans L4) r4 e4 h4 ⟨fun st5 σ5 w5 h5 l5 r5 e5 => back st5 σ5 w5 h5 l5 r5 e5, fun s ρ' w5 v h5 l5 => k.rt s ρ' w5 v h5 (L4.trans l5), fun st5 σ5 w5 h5 l5 r5 e5 => ?_, fun st5 σ5 w5 h5 l5 r5 e5 => back st5 σ5 w5 h5 l5 r5 e5⟩
    exact k.nx (trim ρ1.length st5) σ5 (w5.cut ρ1.length) h5 (l1.trans ((l2.trans (l3.trans (l4.trans l5))).cut en)) (r5.cut _) (RE.cut r5 e5 _)
  · have hn : i = items.length := by omega
    subst hn
    rw [List.drop_length] at lp
    exact .inl ⟨ok.stop w' st'.ρ l2 r2 g2, k.nx st' σ w' lp (l1.trans l2) r2 e2⟩
/-- a while, by what holds at each turn -/
def aWhileT (c : ATT) (b : ATS) : ATS := fun A st => ∃ I : Nat → ASt → Prop, (∃ m, I m st) ∧ ∀ m st1, I m st1 → c st1 fun k ρ1 => if k = true then b { A with nx := fun st2 => ∃ m' < m, I m' (trim st.ρ.length st2), ct := fun st2 => ∃ m' < m, I m' (trim st.ρ.length st2), bk := fun st2 => A.nx (trim st.ρ.length st2) } ⟨st1.δ, ρ1⟩ else A.nx (trim st.ρ.length ⟨st1.δ, ρ1⟩)
theorem sim_whileT {c : TT} {t : TS} {ac : ATT} {b : ATS} (hc : SimT K w0 c ac) (hb : SimS K w0 t b) : SimS K w0 (tWhile c t) (aWhileT ac b) := by
  intro w st σ D A l r e h k
  obtain ⟨I, ⟨m0, h0⟩, turn⟩ := h
  have en : st.ρ.length = w.as.length := r.len
  refine ⟨fun m σ H => ∃ w' st', w'.H = H ∧ Le w w' ∧ RsR K w' st'.ρ ∧ RE K w' st'.δ σ ∧ I m st', ⟨m0, w, st, rfl, .refl w, r, e, h0⟩, ?_⟩
  rintro m σ H ⟨w', st', rfl, l1, r1, e1, i1⟩
  refine hc w' st' σ _ _ (l.trans l1) r1 e1 (turn m st' i1) fun kk ρ1 w2 h2 l2 r2 => ?_
  split
  · rename_i hk
    rw [if_pos hk] at h2
    refine ⟨fun σ' H' => ∃ m' < m, ∃ w3 st3, w3.H = H' ∧ Le w w3 ∧ RsR K w3 st3.ρ ∧ RE K w3 st3.δ σ' ∧ I m' st3, fun σ' H' ⟨m', lt, z⟩ => ⟨m', lt, z⟩, ?_⟩
    have L := l1.trans l2
    refine hb w2 ⟨st'.δ, ρ1⟩ σ _ _ (l.trans L) r2 (e1.mono l2) h2 ⟨fun st5 σ5 w5 h5 l5 r5 e5 => ?_, fun s ρ' w5 v h5 l5 => k.rt s ρ' w5 v h5 (L.trans l5), fun st5 σ5 w5 h5 l5 r5 e5 => k.nx (trim st.ρ.length st5) σ5 (w5.cut st.ρ.length) h5 ((L.trans l5).cut en) (r5.cut _) (RE.cut r5 e5 _), fun st5 σ5 w5 h5 l5 r5 e5 => ?_⟩
    · obtain ⟨m', lt, i5⟩ := h5
      exact ⟨m', lt, w5.cut _, trim _ st5, rfl, (L.trans l5).cut en, r5.cut _, RE.cut r5 e5 _, i5⟩
    · obtain ⟨m', lt, i5⟩ := h5
      exact ⟨m', lt, w5.cut _, trim _ st5, rfl, (L.trans l5).cut en, r5.cut _, RE.cut r5 e5 _, i5⟩
  · rename_i hk
    rw [if_neg hk] at h2
    exact k.nx (trim st.ρ.length ⟨st'.δ, ρ1⟩) σ (w2.cut st.ρ.length) h2 ((l1.trans l2).cut en) (r2.cut _) (RE.cut (st := ⟨st'.δ, ρ1⟩) r2 (e1.mono l2) _)
/-! one step -/
theorem s_forT {it : AIt} {g : ATG} {sa : ATS} {nx bk ct : ASt → Prop} {rt : AK} {δ : List (Option Sl)} {ρ : List Res} (h : it ⟨δ, ρ⟩ fun items gd ρ1 => gd ρ1 ∧ aLoopT ρ1.length g sa gd ⟨nx, rt, bk, ct⟩ items ⟨δ, ρ1⟩) : aForT it g sa ⟨nx, rt, bk, ct⟩ ⟨δ, ρ⟩ := h
theorem loopT {n : Nat} {g : ATG} {sa : ATS} {nx bk ct : ASt → Prop} {rt : AK} {st : ASt} {gd : List Res → Prop} {items : List D} (I : Nat → ASt → Prop) (h0 : I 0 st)
    (hs : ∀ i d st (N : ASt → Prop), items[i]? = some d → (∀ st2, I (i + 1) (trim n st2) → gd (trim n st2).ρ → N st2) → I i st → g (.dat d) st fun st1 => sa ⟨N, rt, fun st2 => nx (trim n st2), N⟩ st1)
    (hd : ∀ st, I items.length st → nx st) : aLoopT n g sa gd ⟨nx, rt, bk, ct⟩ items st := by
  have key : ∀ (r : List D) (i : Nat) (st : ASt), r = items.drop i → i ≤ items.length → I i st → aLoopT n g sa gd ⟨nx, rt, bk, ct⟩ r st := by
    intro r
    induction r with
    | nil =>
      intro i st e hi hI
      have : i = items.length := by
        have := congrArg List.length e
        rw [List.length_drop] at this
        simp at this
        omega
      subst this
      exact hd st hI
    | cons d r ih =>
      intro i st e hi hI
      have hlt : i < items.length := by
        rcases Nat.lt_or_ge i items.length with z | z
        · exact z
        · rw [List.drop_eq_nil_of_le z] at e; cases e
      rw [List.drop_eq_getElem_cons hlt] at e
      injection e with e1 e2
      exact hs i d st _ (by rw [e1]; exact List.getElem?_eq_getElem hlt) (fun st2 h2 hg => ⟨hg, ih (i + 1) _ e2 hlt h2⟩) hI
  exact key items 0 st rfl (Nat.zero_le _) h0
/-! comprehensions -/
def aLcLT (g : ATG) (t : ATT) (e : ATE) (δ' : List (Option Sl)) (m : Nat) (gd : List Res → Prop) (Kc : AK) : List D → List Res → Prop
  | [], ρ => Kc (.res m) ρ
  | d :: r, ρ => g (.dat d) ⟨δ', ρ⟩ fun st1 => t st1 fun b ρ2 => if b = true then e ⟨st1.δ, ρ2⟩ fun s ρ3 => frz ρ3 (nrm ρ3 s) fun x ρ4 => ∃ acc, ρ4[m]? = some (.lst acc) ∧ acc.length < sizeLine ∧
      gd ((ρ4.set m (.lst (acc ++ [x]))).take (m + 1)) ∧ aLcLT g t e δ' m gd Kc r ((ρ4.set m (.lst (acc ++ [x]))).take (m + 1)) else gd (ρ2.take (m + 1)) ∧ aLcLT g t e δ' m gd Kc r (ρ2.take (m + 1))
def aLcT (it : AIt) (g : ATG) (t : ATT) (e : ATE) (vs : List Nat) : ATE := fun st Kc => it st fun items gd ρ1 => gd (ρ1 ++ [.lst []]) ∧ aLcLT g t e (aWipe st.δ vs) ρ1.length gd Kc items (ρ1 ++ [.lst []])
theorem sim_lcT {wi : TI} {g : TG} {tt : TT} {te : TE} {it : AIt} {ag : ATG} {att : ATT} {ae : ATE} {vs : List Nat} (hi : SimI K w0 wi it) (hg : SimG K w0 g ag) (hw : Wip g vs) (ht : SimT K w0 tt att) (he : SimE K w0 te ae) : SimE K w0 (tLc wi g tt te vs) (aLcT it ag att ae vs) := by
  intro w st σ Q Kc l r e h k
  refine hi w st σ _ _ l r e h fun items gd ρ1 w1 J hk l1 r1 ok => ?_
  intro p hp
  have z0 := new_res (x := .lst []) hp r1 (new_lst hp (xs := []) .nil)
  have LG := Le.grown w1 p (.lst []) hp
  have en : ρ1.length + 1 = (w1.grown p (.lst []) hp).as.length := by
    show _ = (w1.as ++ [p]).length
    rw [List.length_append, r1.len]; rfl
  refine ⟨fun i m H => ∃ w' ρ', w'.H = H ∧ Le (w1.grown p (.lst []) hp) w' ∧ RsR K w' ρ' ∧ i ≤ items.length ∧ m = items.length - i ∧ gd ρ' ∧ aLcLT ag att ae (aWipe st.δ vs) ρ1.length gd Kc (items.drop i) ρ',
    ⟨items.length, w1.grown p (.lst []) hp, _, rfl, .refl _, z0.2, Nat.zero_le _, by omega, hk.1, by rw [List.drop_zero]; exact hk.2⟩, ?_⟩
  have asp : ∀ {w' : W}, Le (w1.grown p (.lst []) hp) w' → w'.as[ρ1.length]? = some p := fun {w'} l' => by
    obtain ⟨m, em⟩ := l'.pre
    have e0 : (w1.grown p (.lst []) hp).as[ρ1.length]? = some p := by
      show (w1.as ++ [p])[ρ1.length]? = some p
      rw [r1.len, List.getElem?_append_right (Nat.le_refl _), Nat.sub_self]; rfl
    rw [em, List.getElem?_append_left (List.getElem?_eq_some_iff.mp e0).1]; exact e0
  rintro i m H ⟨w', ρ', rfl, l2, r2, hil, hm, g2, lp⟩
  have l12 := LG.trans l2
  by_cases hlt : i < items.length
  · have hd := List.getElem?_eq_getElem hlt
    obtain ⟨go, yl⟩ := ok.item w' ρ' i _ l12 r2 g2 hd
    rw [List.drop_eq_getElem_cons hlt] at lp
    refine .inr ⟨go, fun H' => ∃ w'' ρ'', w''.H = H' ∧ Le (w1.grown p (.lst []) hp) w'' ∧ RsR K w'' ρ'' ∧ gd ρ'' ∧ aLcLT ag att ae (aWipe st.δ vs) ρ1.length gd Kc (items.drop (i + 1)) ρ'', fun H' ⟨w'', ρ'', z1, z2, z3, z4, z5⟩ => ⟨items.length - (i + 1), by omega, w'', ρ'', z1, z2, z3, hlt, rfl, z4, z5⟩, fun x H' y => ?_⟩
    obtain ⟨w3, l3, rfl, r3, rv⟩ := yl x H' y
    have L := l1.trans (l12.trans l3)
    have e3 : RE K w3 (aWipe st.δ vs) (wipe σ vs) := (e.mono L).wip vs
    have q := hw x (wipe σ vs) w3.H _ (hg w3 ⟨aWipe st.δ vs, ρ'⟩ (wipe σ vs) x _ (fun σ2 H2 => tt σ2 H2 fun b H3 => if b = true then te σ2 H3 fun y H4 => ∃ acc, H4 p = some (.lst acc) ∧ acc.length < sizeLine ∧ (∃ w'' ρ'', w''.H = upd H4 p (.lst (acc ++ [y])) ∧ Le (w1.grown p (.lst []) hp) w'' ∧ RsR K w'' ρ'' ∧ gd ρ'' ∧ aLcLT ag att ae (aWipe st.δ vs) ρ1.length gd Kc (items.drop (i + 1)) ρ'') else ∃ w'' ρ'', w''.H = H3 ∧ Le (w1.grown p (.lst []) hp) w'' ∧ RsR K w'' ρ'' ∧ gd ρ'' ∧ aLcLT ag att ae (aWipe st.δ vs) ρ1.length gd Kc (items.drop (i + 1)) ρ'') _ (l.trans L) r3 e3 (show RS K w3 x (.dat _) from rv) lp ?_)
    · rw [wipe_idem] at q
      exact q
    intro st4 σ4 w4 h4 l4 r4 e4
    refine ht w4 st4 σ4 _ _ (l.trans (L.trans l4)) r4 e4 h4 fun b ρ5 w5 h5 l5 r5 => ?_
    have L5 := L.trans (l4.trans l5)
    have LP5 := l2.trans (l3.trans (l4.trans l5))
    split
    · rename_i hb
      rw [if_pos hb] at h5
      refine he w5 ⟨st4.δ, ρ5⟩ σ4 _ _ (l.trans L5) r5 (e4.mono l5) h5 fun s ρ6 w6 v h6 l6 r6 q6 => ?_
      obtain ⟨d, ρ7, w7, h7, l7, e7, r7, q7⟩ := sim_frz q6 (r6.nrm q6) h6
      obtain ⟨acc, ha, hal, hgd, hrest⟩ := h7
      have hp7 := asp (LP5.trans (l6.trans l7))
      obtain ⟨ng, xs, hx, qx⟩ := q7.at_ _ p _ hp7 ha
      rw [← e7]
      have hR : RR K (w7.wrote p (.lst (xs ++ [v])) (as_mem hp7)) p (.lst (acc ++ [d])) := ⟨ng, _, upd_same, (qx.app (.cons r7 .nil)).mono (Le.wrote w7 p _ _ ng)⟩
      exact ⟨xs, hx, by rw [qx.len]; exact hal, (w7.wrote p _ (as_mem hp7)).cut (ρ1.length + 1), _, rfl, (LP5.trans (l6.trans (l7.trans (Le.wrote w7 p _ _ ng)))).cut en, (q7.wrote hp7 ng hR).cut _, hgd, hrest⟩
    · rename_i hb
      rw [if_neg hb] at h5
      exact ⟨w5.cut (ρ1.length + 1), _, rfl, LP5.cut en, r5.cut _, h5.1, h5.2⟩
  · have hn : i = items.length := by omega
    subst hn
    rw [List.drop_length] at lp
    exact .inl ⟨ok.stop w' ρ' l12 r2 g2, k _ _ w' _ lp (l1.trans l12) ⟨p, asp l2, rfl⟩ r2⟩
theorem s_lcT {it : AIt} {g : ATG} {t : ATT} {e : ATE} {vs : List Nat} {δ : List (Option Sl)} {ρ : List Res} {Kc : AK} (h : it ⟨δ, ρ⟩ fun items gd ρ1 => gd (ρ1 ++ [.lst []]) ∧ aLcLT g t e (aWipe δ vs) ρ1.length gd Kc items (ρ1 ++ [.lst []])) : aLcT it g t e vs ⟨δ, ρ⟩ Kc := h
theorem lcT {g : ATG} {t : ATT} {e : ATE} {δ' : List (Option Sl)} {m : Nat} {gd : List Res → Prop} {Kc : AK} {items : List D} {ρ : List Res} (I : Nat → List Res → Prop) (h0 : I 0 ρ)
    (hs : ∀ i d ρ (N : List Res → Prop), items[i]? = some d → (∀ ρ', I (i + 1) ρ' → gd ρ' → N ρ') → I i ρ → g (.dat d) ⟨δ', ρ⟩ fun st1 => t st1 fun b ρ2 => if b = true then e ⟨st1.δ, ρ2⟩ fun s ρ3 => frz ρ3 (nrm ρ3 s) fun x ρ4 => ∃ acc, ρ4[m]? = some (.lst acc) ∧ acc.length < sizeLine ∧ N ((ρ4.set m (.lst (acc ++ [x]))).take (m + 1)) else N (ρ2.take (m + 1)))
    (hd : ∀ ρ, I items.length ρ → Kc (.res m) ρ) : aLcLT g t e δ' m gd Kc items ρ := by
  have key : ∀ (r : List D) (i : Nat) (ρ : List Res), r = items.drop i → i ≤ items.length → I i ρ → aLcLT g t e δ' m gd Kc r ρ := by
    intro r
    induction r with
    | nil =>
      intro i ρ e' hi hI
      have : i = items.length := by
        have := congrArg List.length e'
        rw [List.length_drop] at this
        simp at this
        omega
      subst this
      exact hd ρ hI
    | cons d r ih =>
      intro i ρ e' hi hI
      have hlt : i < items.length := by
        rcases Nat.lt_or_ge i items.length with z | z
        · exact z
        · rw [List.drop_eq_nil_of_le z] at e'; cases e'
      rw [List.drop_eq_getElem_cons hlt] at e'
      injection e' with e1 e2
      have hN : ∀ ρ', I (i + 1) ρ' → gd ρ' → gd ρ' ∧ aLcLT g t e δ' m gd Kc r ρ' := fun ρ' h2 hg => ⟨hg, ih (i + 1) ρ' e2 hlt h2⟩
      have q := hs i d ρ _ (by rw [e1]; exact List.getElem?_eq_getElem hlt) hN hI
      exact q
  exact key items 0 ρ rfl (Nat.zero_le _) h0
end
end An
namespace An
open PySem PySem.Spec PyProof.Rows L2 Ov
/-! #### steps that leave the state in its plain form -/
section
variable {δ δ' : List (Option Sl)} {A : AE} {nx bk ct : ASt → Prop} {rt : AK} {Kc : AK} {Ka : List Sl → List Res → Prop} {Ks : ASt → Prop} {Kd : D → List Res → Prop} {Ki : KI} {a b : ATE} {la : ATA} {ρ ρ' ρio : List Res} {x y s : Sl} {ss : List Sl} {d : D} {k n : Nat} {ks : List Nat} {l l' : List D} {r : Res} {g : ATG} {sa : ATS} {it : AIt} {gd : List Res → Prop} {items : List D}
theorem n_name (e : δ.set n (some s) = δ') (h : Ks ⟨δ', ρ⟩) : aName n s ⟨δ, ρ⟩ Ks := by subst e; exact h
theorem n_doneD (e : setAll ρ ks ρio = ρ') (h : Kc (.dat d) ρ') : aDone ks ρ Kc (.dat d) ρio := by subst e; exact h
theorem n_doneR (e : setAll ρ ks ρio ++ [r] = ρ') (e2 : ρ.length = k) (h : Kc (.res k) ρ') : aDone ks ρ Kc (.res r) ρio := by subst e e2; exact h
/-- something new -/
def newR (Kc : AK) (r : Res) (ρ : List Res) : Prop := Kc (.res ρ.length) (ρ ++ [r])
theorem n_newR (e : ρ ++ [r] = ρ') (e2 : ρ.length = k) (h : Kc (.res k) ρ') : newR Kc r ρ := by subst e e2; exact h
theorem n_lst (h : la ⟨δ, ρ⟩ fun xs ρ1 => xs.length ≤ sizeLine ∧ frzs ρ1 xs fun ds ρ2 => newR Kc (.lst ds) ρ2) : aLst la ⟨δ, ρ⟩ Kc := h
theorem n_list (e : seqOf ρ x = some l) (h : newR Kc (.lst l) ρ) : fList [x] ρ Kc := s_list e h
theorem n_addL (e1 : lstOf ρ x = some l) (e2 : lstOf ρ y = some l') (hl : l.length + l'.length ≤ sizeLine) (h : newR Kc (.lst (l ++ l')) ρ) : fAdd x y ρ Kc := s_addL e1 e2 hl h
theorem n_slL {lo hi : Option Int} (e : lsOf ρ x = some l) (h : newR Kc (.lst (cutD l lo hi)) ρ) : fSl x lo hi ρ Kc := s_slL e h
theorem n_dnew (h : newR Kc (.dic []) ρ) : aDNew ⟨δ, ρ⟩ Kc := h
theorem n_frzR (e : s = .res k) (e2 : (ρ[k]?).bind Res.data = some d) (e3 : ρ.set k (.fz d) = ρ') (h : Kd d ρ') : frz ρ s Kd := by subst e3; exact s_frzR e e2 h
/-- a loop's turns are counted from here -/
theorem n_for (h : it ⟨δ, ρ⟩ fun items gd ρ1 => gd ρ1 ∧ aLoopT ρ1.length g sa gd ⟨nx, rt, bk, ct⟩ items ⟨δ, ρ1⟩) : aForT it g sa ⟨nx, rt, bk, ct⟩ ⟨δ, ρ⟩ := h
/-- the list that a comprehension makes -/
theorem n_len (e : ρ.length = n) (h : aLoopT n g sa gd A items ⟨δ, ρ⟩) : aLoopT ρ.length g sa gd A items ⟨δ, ρ⟩ := by subst e; exact h
end
end An

namespace An
open PySem PySem.Spec PyProof.Rows L2 Ov
/-- what holds behind a statement, said once for all its ways -/
theorem s_cut {sa sb : ATS} {nx bk ct : ASt → Prop} {rt : AK} {st : ASt} (S : ASt → Prop) (h1 : ∀ N : ASt → Prop, (∀ st', S st' → N st') → sa ⟨N, rt, bk, ct⟩ st) (h2 : ∀ st', S st' → sb ⟨nx, rt, bk, ct⟩ st') : aSeq sa sb ⟨nx, rt, bk, ct⟩ st := h1 _ h2
end An
namespace An
open PySem PySem.Spec PyProof.Rows L2 Ov
theorem n_kv1 {a b : ATE} {δ : List (Option Sl)} {ρ ρ0 : List Res} {k : Nat} {Kc : AK} (e0 : ρ ++ [.dic []] = ρ0) (e1 : ρ.length = k) (h : a ⟨δ, ρ0⟩ fun y ρ1 => b ⟨δ, ρ1⟩ fun z ρ2 => frz ρ2 (nrm ρ2 z) fun d ρ3 => ∃ yd key, y = .dat yd ∧ keyOf yd = some key ∧ ρ3[k]? = some (.dic []) ∧ Kc (.res k) (ρ3.set k (.dic [(key, d)]))) : aKV1 a b ⟨δ, ρ⟩ Kc := by
  subst e0 e1; exact h
end An
namespace An
theorem setAll_nil (ρ xs : List Res) : setAll ρ [] xs = ρ := by cases xs <;> rfl
end An
namespace Ov
open PySem PySem.Spec PyProof.Rows L2
/-- a promise as it stands within an except suite -/
abbrev spH (sp : Sp) : SpX := fun _ _ _ vs H Q E => sp (vs ++ []) H Q E
theorem spH_of {sp : Sp} {a : Addr} {cls : Value} {d : Option Addr} {vs : List V} {H : Hp} {Q : VK} {E : XK} (h : spH sp a cls d vs H Q E) : sp vs H Q E := by
  have h' : sp (vs ++ []) H Q E := h
  rw [List.append_nil] at h'
  exact h'
theorem Has.voidH {P : Program} {w : World} {K : PySem.W.Frag} {mg : Str → Option Value} {base : Heap} {k : Nat} {x : Str} {st : Stmt} {ps : List Str} {sp : SpX} (h : Has K mg x st ps) (no : ∀ a cls d vs H Q E, ¬ sp a cls d vs H Q E) : CalX P w K mg base k x ps sp := by
  obtain ⟨f, fd, F, m, b⟩ := h
  exact ⟨f, fd, ⟨fun a cls d vs H Q E h => (no _ _ _ _ _ _ _ h).elim, fun A outer s H args us vs Q E a oe cls d hr hp hz hf he hb hv hs => (no _ _ _ _ _ _ _ hs).elim⟩, m, F.kp, .all b⟩
end Ov
namespace An
open PySem PySem.Spec PyProof.Rows L2 Ov
theorem len_conc {K : PySem.W.Frag} {F : AF} {n : Nat} {vs : List V} {H : Hp} {Q : VK} {E : XK} (hF : ∀ ags R X, F ags R X → ags.length = n) (h : Conc K F vs H Q E) : vs.length = n := by
  obtain ⟨w, ags, R, X, _, ha, hf, _⟩ := h
  rw [ha.len, hF ags R X hf]
end An
namespace Ov
open PySem PySem.Spec PyProof.Rows L2
theorem pe_callW {X : Cx} {k : Nat} {x : Str} {ps : List Str} {sp : Sp} {a : Addr} {oe : Obj} {cls : Value} {d : Option Addr} {pn : List (Addr × Obj)} {q pos : Pos} {e : Expr} {es : List Expr} {t : TA} (c : CalX X.prog X.w X.K X.mg X.base k x ps (spH sp)) (hr : Room k X.A)
    (hz : Zc cls d oe) (hf : ∃ ws, oe.data = .fields ws) (hg : Gl (X.suite a ((a, oe) :: pn)) x) (ha : PA (X.suite a ((a, oe) :: pn)) (e :: es) t) (hdb : (x == ("__debug__" : Str)) = false := by decide)
    (he : starEach (e :: es) X.env = (false, eval e X.env) :: starEach es X.env := by rfl) (hpl : (backTo pos (starEach es X.env)).any (·.1) = false := by rfl) : PE (X.suite a ((a, oe) :: pn)) (.Call (.Name x q) (e :: es) [] pos) (tCall sp [] E0 t) :=
  pe_callX c hr hz hf hg ha hdb he hpl
theorem pe_callWP {X : Cx} {k : Nat} {x : Str} {ps : List Str} {sp : Sp} {a : Addr} {oe : Obj} {cls : Value} {d : Option Addr} {q pos : Pos} {e : Expr} {es : List Expr} {t : TA} (hp : (a, oe) ∈ X.pn) (c : CalX X.prog X.w X.K X.mg X.base k x ps (spH sp)) (hr : L2H.RoomH k X.A)
    (hz : Zc cls d oe) (hf : ∃ ws, oe.data = .fields ws) (hg : Gl X x) (ha : PA X (e :: es) t) (hdb : (x == ("__debug__" : Str)) = false := by decide)
    (he : starEach (e :: es) X.env = (false, eval e X.env) :: starEach es X.env := by rfl) (hpl : (backTo pos (starEach es X.env)).any (·.1) = false := by rfl) : PE X (.Call (.Name x q) (e :: es) [] pos) (tCall sp [] E0 t) :=
  pe_callXP hp c hr hz hf hg ha hdb he hpl
end Ov

set_option Elab.async false
set_option linter.all false
set_option maxRecDepth 100000
namespace HT
open PySem PySem.Spec PyProof.Rows
section
variable {prog : Program} {w : World} {A : Around} {E : Value → Shared → Prop} {s : Shared}
theorem adjust_rev (n : Nat) : Builtin.Slice.sliceAdjust none none (-1) (n : Int) = ((n : Int) - 1, -1) := rfl
theorem places_rev (n : Nat) : Builtin.Slice.slicePlaces ((n : Int) - 1) (-1) (-1) = n := by
  unfold Builtin.Slice.slicePlaces
  rw [if_neg (by decide)]
  split
  · rw [show (- -1 : Int) = 1 by decide, Int.ediv_one]; omega
  · omega
theorem sliceApplied_rev {sl : Addr} {vl vu vs : Value} {n : Nat} {Q : Int × Int × Nat → Shared → Prop} (hs : s.heap.IsSliceOf sl vl vu vs) (pl : IsPart vl none) (pu : IsPart vu none) (ps : IsPart vs (some (-1)))
    (h : Q ((n : Int) - 1, -1, n) s) : wpAny (model prog w) A (Builtin.Slice.sliceApplied (.ref sl) (pure (n : Int))) Q E s := by
  obtain ⟨os, hos, hcs, hds⟩ := id hs
  unfold Builtin.Slice.sliceApplied Builtin.Slice.sliceFields
  refine wpAny_bind (wpAny_bind (wpAny_field hos hds (x := vl) rfl (wpAny_bind (wpAny_field hos hds (x := vu) rfl (wpAny_bind (wpAny_field hos hds (x := vs) rfl (wpAny_pure ?_)))))))
  refine wpAny_bind (slicePart_ ps ?_)
  show wpAny _ _ (if ((-1 : Int) == 0) = true then _ else _) _ _ s
  rw [if_neg (by decide)]
  refine wpAny_bind (slicePart_ pl (wpAny_bind (slicePart_ pu (wpAny_bind (wpAny_pure ?_)))))
  show wpAny _ _ (match Builtin.Slice.sliceAdjust none none (-1) (n : Int) with | (lo, hi) => pure (lo, (-1 : Int), Builtin.Slice.slicePlaces lo hi (-1))) _ _ s
  rw [adjust_rev n]
  show wpAny _ _ (pure (((n : Int) - 1), (-1 : Int), Builtin.Slice.slicePlaces ((n : Int) - 1) (-1) (-1))) _ _ s
  rw [places_rev]
  exact wpAny_pure h
theorem pick_rev (xs : Array Value) : ((List.range xs.size).filterMap fun (m : Nat) => xs[(((xs.size : Int) - 1) + (m : Int) * (-1)).toNat]?).toArray = xs.toList.reverse.toArray := by
  have e : ((List.range xs.size).filterMap fun (m : Nat) => xs[(((xs.size : Int) - 1) + (m : Int) * (-1)).toNat]?) = ((List.range xs.size).map fun k => xs.size - 1 - k).filterMap (xs[·]?) := by
    rw [List.filterMap_map]
    have key : ∀ (l : List Nat), (∀ m ∈ l, m < xs.size) → l.filterMap (fun (m : Nat) => xs[(((xs.size : Int) - 1) + (m : Int) * (-1)).toNat]?) = l.filterMap ((fun x => xs[x]?) ∘ fun k => xs.size - 1 - k) := by
      intro l
      induction l with
      | nil => intro _; rfl
      | cons m l ih =>
        intro hl
        have hm := hl m List.mem_cons_self
        rw [List.filterMap_cons, List.filterMap_cons, ih fun k hk => hl k (List.mem_cons_of_mem _ hk)]
        have e : (((xs.size : Int) - 1) + (m : Int) * (-1)).toNat = xs.size - 1 - m := by omega
        rw [e]
        rfl
    exact key _ fun m hm => List.mem_range.mp hm
  rw [e, PySem.W.krv_range, List.filterMap_reverse, PySem.W.krv_all]
theorem getItem_tuple_rev {t sl : Addr} {items : Array Value} {vl vu vs : Value} {Q : Value → Shared → Prop} (ht : IsTup s.heap t items) (hs : s.heap.IsSliceOf sl vl vu vs) (pl : IsPart vl none) (pu : IsPart vu none) (ps : IsPart vs (some (-1)))
    (h : Q (.ref s.heap.objs.size) { s with heap := s.heap.push { cls := .type "tuple", data := .seq items.toList.reverse.toArray } })
    (hsz : items.size ≤ sizeLine) : wpAny (model prog w) A (getItem (.ref t) (.ref sl)) Q E s := by
  have htake : sizeOk (.seq items.toList.reverse.toArray) := by
    show items.toList.reverse.toArray.size ≤ sizeLine
    rw [List.size_toArray, List.length_reverse, Array.length_toList]
    omega
  obtain ⟨os, hos, hcs, hds⟩ := id hs
  have hTs : s.TypeIs (.ref sl) "slice" := ⟨os, hos, hcs⟩
  unfold getItem
  try with_reducible refine wpAny_holding ?_
  first | refine wpAny_bind (wpAny_pure ?_) | skip
  refine wpAny_bind (wpAny_sequenceKey ht.typeIs (by decide) ?_)
  refine wpAny_bind (wpAny_callSpecial?_slot (name := Str.ofString "__getitem__") ht.typeIs PyProof.Rows.slot_tuple_getitem
    (wpAny_call_entry PyProof.Rows.slot_tuple_getitem ht.typeIs entry_tuple_getitem ?_ (args_tuple_getitem _ _)))
  show wpAny _ _ (Builtin.Tuple.tupleItemsOf (.ref t) >>= _) _ _ s
  refine wpAny_bind (tupleItemsOf_ ht ?_)
  refine wpAny_bind (wpAny_typeOf hTs ?_)
  rw [if_pos (by decide)]
  refine wpAny_bind (sliceApplied_rev hs pl pu ps ?_)
  have hno : ¬ ((((items.size : Int) - 1) == 0 && (-1 : Int) == 1 && items.size == items.size) = true) := by
    intro q
    rw [Bool.and_eq_true, Bool.and_eq_true] at q
    exact absurd q.1.2 (by decide)
  show wpAny _ _ (if (((items.size : Int) - 1) == 0 && (-1 : Int) == 1 && items.size == items.size) = true then _ else _) _ _ s
  rw [if_neg hno, pick_rev]
  first
    | exact wpAny_bind (m := Builtin.Tuple.tupleExact _) (wpAny_newObj_type (wpAny_pure ⟨_, rfl, wpAny_pure h⟩) htake)
    | exact wpAny_bind (m := Builtin.Tuple.tupleExact _) (wpAny_newObj_type (wpAny_bind (wpAny_pure (wpAny_pure ⟨_, rfl, wpAny_pure h⟩))) htake)
    | exact wpAny_bind (wpAny_bind (m := Builtin.Tuple.tupleExact _) (wpAny_newObj_type (wpAny_pure (wpAny_pure ⟨_, rfl, wpAny_pure h⟩)) htake))
    | exact wpAny_bind (wpAny_bind (m := Builtin.Tuple.tupleExact _) (wpAny_newObj_type (wpAny_pure ⟨_, rfl, wpAny_pure h⟩) htake))
end
end HT
namespace Ov
open PySem PySem.Spec PyProof.Rows L2
section
variable {X : Cx}
/-- xs[::-1] of a list or a tuple -/
def tRevA (K : PySem.W.Frag) (te : TE) : TE := fun σ H Q => te σ H fun x H1 => ∃ a xs, x = .ref a ∧ ((SqL K H1 a xs ∧ ∀ p, H1 p = none → Q (.ref p) (upd H1 p (.lst xs.reverse))) ∨ (SqT K H1 a xs ∧ ∀ p, H1 p = none → Q (.ref p) (upd H1 p (.tup xs.reverse))))
theorem pe_revX {e : Expr} {te : TE} {k : Nat} {p1 p2 p3 pos : Pos} (he : PE X e te) : PE X (.Subscript e (.Slice none none (some (.UnaryOp .USub (.Constant (.int 1) k p1) p2)) p3) pos) (tRevA X.K te) := by
  refine ⟨fun pins s σ H Q I h => ?_⟩
  refine Subscript_ (thn (he.run pins s σ H _ I h) fun v s1 ⟨x, H1, I1, r1, q1⟩ => ?_)
  obtain ⟨a, xs, ex, q⟩ := q1
  subst ex
  cases r1
  have hst : PO X (some (.UnaryOp .USub (.Constant (.int 1) k p1) p2)) (tPart (tUn (rU fun i => .int (-i)) (tC (.int 1)))) := po_some (pe_un un_neg pe_int)
  refine wpAny_Slice (thn (po_none.run pins s1 σ H1 (fun o H2 => o = none ∧ H2 = H1) I1 ⟨rfl, rfl⟩) fun vl s2 ⟨l, H2, I2, pl, el, e2⟩ => ?_)
  subst el e2
  refine thn (po_none.run pins s2 σ H2 (fun o H3 => o = none ∧ H3 = H2) I2 ⟨rfl, rfl⟩) fun vu s3 ⟨u, H3, I3, pu, eu, e3⟩ => ?_
  subst eu e3
  refine thn (hst.run pins s3 σ H3 (fun o H4 => o = some (-1) ∧ H4 = H3) I3 ⟨1, rfl, -1, rfl, rfl, rfl⟩) fun vs s4 ⟨o, H4, I4, ps, eo, e4⟩ => ?_
  subst eo e4
  have I5 : Inv X pins σ H4 { s4 with heap := s4.heap.push { cls := .type "slice", data := .fields #[vl, vu, vs] } } := I4.kept (t' := s4.toks) fun b ob q => Heap.get?_push_of_some _ q
  rcases q with ⟨hx, q⟩ | ⟨hx, q⟩
  · obtain ⟨its, r, ht, hz⟩ := I5.list hx
    have hlen := r.length
    show wpAny (model X.prog X.w) X.A (subscriptTail e (.Slice none none (some (.UnaryOp .USub (.Constant (.int 1) k p1) p2)) p3) (.ref a) (.ref s4.heap.objs.size)) (EP X pins σ Q) X.xe { s4 with heap := s4.heap.push { cls := .type "slice", data := .fields #[vl, vu, vs] } }
    refine tail_any (ops := [.ref a, .ref s4.heap.objs.size]) ht.isList.typeIs (PySem.slot_list_getitem.lookup) ?_ (by with_unfolding_all rfl)
    refine wpAny_getItem_list_slice ht.isList (Heap.IsSliceOf.new _ vl vu vs) pl pu ps (by decide) ?_ (by rw [List.size_toArray]; omega)
    rw [PySem.W.krv_pick]
    refine ⟨.ref _, _, I5.laid (t' := s4.toks) (o := .lst xs.reverse) (fun b ob q => Heap.get?_push_of_some _ q) (Nat.le_refl _) ?_, rfl, q _ (I5.hok.fresh (Nat.le_refl _))⟩
    exact ⟨by rw [List.length_reverse]; exact hz, _, 0, r.reverse, Heap.get?_push_size _ rfl⟩
  · obtain ⟨its, r, ht, hz⟩ := I5.tuple hx
    have hlen := r.length
    show wpAny (model X.prog X.w) X.A (subscriptTail e (.Slice none none (some (.UnaryOp .USub (.Constant (.int 1) k p1) p2)) p3) (.ref a) (.ref s4.heap.objs.size)) (EP X pins σ Q) X.xe { s4 with heap := s4.heap.push { cls := .type "slice", data := .fields #[vl, vu, vs] } }
    refine tail_any (ops := [.ref a, .ref s4.heap.objs.size]) ht.typeIs (PyProof.Rows.slot_tuple_getitem.lookup) ?_ (by with_unfolding_all rfl)
    refine HT.getItem_tuple_rev ht (Heap.IsSliceOf.new _ vl vu vs) pl pu ps ?_ (by rw [List.size_toArray]; omega)
    refine ⟨.ref _, _, I5.laid (t' := s4.toks) (o := .tup xs.reverse) (fun b ob q => Heap.get?_push_of_some _ q) (Nat.le_refl _) ?_, rfl, q _ (I5.hok.fresh (Nat.le_refl _))⟩
    exact ⟨by rw [List.length_reverse]; exact hz, _, r.reverse, ⟨_, Heap.get?_push_size _ rfl, rfl, 0, rfl⟩⟩
end
end Ov
namespace Ov
open PySem PySem.Spec PyProof PySem.AutoSeq1
theorem list_extend_tupW (l : Addr) (items : Array Value) (n : Nat) (b : Addr) (items2 : Array Value) (n2 : Nat) (dd2 : Option Addr) (sl2 : Array (Option Value)) (hs0 : ¬(!items.isEmpty && Builtin.List.listTooLong (items.size + items2.size)) = true) (hs1 : items.size ≤ sizeLine) (hs2 : items.size + items2.size ≤ sizeLine + 1) :
    Meets (Builtin.«list.extend» ⟨[.ref l, .ref b], []⟩) (fun _ R s => s.heap.get? l = some { cls := .type "list", dict := none, data := .seq items n, slots := #[] } ∧ s.heap.get? b = some { cls := .type "tuple", dict := dd2, data := .seq items2 n2, slots := sl2 } ∧ R (.ok (.ret Value.none)) { s with heap := s.heap.update l (Obj.mapSeq fun x => x ++ items2), toks := s.toks }) :=
  .of_wp fun prog w A R s h => by
    obtain ⟨hp, g, d, tk, os⟩ := s; obtain ⟨hl, hb, h⟩ := h; have f1 := idx_int; have f2 := sub_tuple_tuple; have f3 := sub_list_list; have f4 := sub_tuple_list; have f5 := sub_list_tuple;
    have hz' : (items ++ items2).size ≤ sizeLine + 1 := by rw [Array.size_append]; exact hs2
    wp_walk using (wpAny_updateSeq hl rfl (hz := hs1) (_hz' := hz')), wpAny_loadPart' hl, wpAny_loadPart' hb; exact ⟨_, rfl, h⟩
end Ov
namespace Ov
open PySem PySem.Spec PyProof.Rows L2
/-- xs.extend(t), t a tuple -/
def rExtendT (K : PySem.W.Frag) : V → List V → Hp → VK → Prop := fun x vs H Q => ∃ l b xs zs, x = .ref l ∧ vs = [.ref b] ∧ H l = some (.lst xs) ∧ SqT K H b zs ∧ xs.length + zs.length ≤ sizeLine ∧ Q .non (upd H l (.lst (xs ++ zs)))
theorem mt_extendT {X : Cx} : MtR X "list.extend" (rExtendT X.K) := by
  intro pins s σ H x vs v us Q I rx rv h
  obtain ⟨l, b, xs, zs, rfl, rfl, hH, hB, hz, q⟩ := h
  cases rx
  obtain ⟨u, rfl, ru⟩ := rv.one
  cases ru
  obtain ⟨z, its, n, r, hl, e⟩ := I.lstM hH
  obtain ⟨its2, r2, ⟨⟨cls2, dd2, data2, sl2⟩, e2, hc2, n2, hd2⟩, z2⟩ := I.tuple hB
  simp only at hc2 hd2
  subst hc2 hd2
  have hl2 := r2.length
  have hsz : its.toArray.size + its2.toArray.size ≤ sizeLine := by rw [List.size_toArray, List.size_toArray]; omega
  have hlong : ¬ (!its.toArray.isEmpty && Builtin.List.listTooLong (its.toArray.size + its2.toArray.size)) = true := by
    rw [notLongL hsz, Bool.and_false]
    exact Bool.false_ne_true
  refine call_meets F.slot_list_extend ⟨_, e, rfl⟩ F.entry_list_extend (F.args_list_extend_2 _ _)
    (list_extend_tupW l its.toArray n b its2.toArray n2 dd2 sl2 hlong (by rw [List.size_toArray]; omega) (by omega)) ⟨e, e2, ?_⟩
  refine ⟨.non, _, I.lset (its' := its ++ its2) hH e (by simp) (r.append r2) ?_, rfl, q⟩
  rw [List.length_append]
  omega
end Ov
namespace Ov
open PySem PySem.Spec PyProof.Rows L2
def rExtendX (K : PySem.W.Frag) : V → List V → Hp → VK → Prop := fun x vs H Q => rExtend x vs H Q ∨ rExtendT K x vs H Q
theorem mt_extendX {X : Cx} : MtR X "list.extend" (rExtendX X.K) := by
  intro pins s σ H x vs v us Q I rx rv h
  rcases h with h | h
  · exact mt_extend pins s σ H x vs v us Q I rx rv h
  · exact mt_extendT pins s σ H x vs v us Q I rx rv h
end Ov
namespace An
open PySem PySem.Spec PyProof.Rows L2 Ov
/-! #### xs[::-1], xs.extend(ys) -/
def fRev : Sl → List Res → AK → Prop := fun s ρ Kc => match s with
  | .dat (.tup l) => Kc (.dat (.tup l.reverse)) ρ
  | s => match lsOf ρ s with
    | some l => newR Kc (.lst l.reverse) ρ
    | none => False
def aRev (a : ATE) : ATE := fun st Kc => a st fun s ρ1 => fRev s ρ1 Kc
def fExtendX : ABm := fun o ss ρ Kc => match o, ss with
  | .res k, [.dat (.tup zs)] => ∃ l, ρ[k]? = some (.lst l) ∧ l.length + zs.length ≤ sizeLine ∧ Kc (.dat .non) (ρ.set k (.lst (l ++ zs)))
  | .res k, [.res j] => ∃ l zs, ρ[k]? = some (.lst l) ∧ ρ[j]? = some (.lst zs) ∧ l.length + zs.length ≤ sizeLine ∧ Kc (.dat .non) (ρ.set k (.lst (l ++ zs)))
  | _, _ => False
section
variable {K : PySem.W.Frag} {w0 : W}
theorem RVs.rev {w : W} : ∀ {xs : List V} {ds : List D}, RVs K w xs ds → RVs K w xs.reverse ds.reverse
  | _, _, .nil => .nil
  | _, _, .cons r t => by
    rw [List.reverse_cons, List.reverse_cons]
    exact (RVs.rev t).app (.cons r .nil)
theorem sim_rev {t : TE} {a : ATE} (ha : SimE K w0 t a) : SimE K w0 (tRevA K t) (aRev a) := by
  intro w st σ Q Kc l r e h k
  refine ha w st σ _ _ l r e h fun s ρ1 w1 v h1 l1 r1 q1 => ?_
  unfold fRev at h1
  split at h1
  · obtain ⟨b, rfl, hs⟩ := tup_stays r1
    obtain ⟨xs, z, q⟩ := hs w1 (.refl w1)
    refine ⟨b, xs, rfl, .inr ⟨z, fun p hp => ?_⟩⟩
    exact k _ _ (w1.fixed p _ hp) _ h1 (l1.trans (Le.fixed _ _ _ _)) (new_tup hp q.rev) (q1.fixed hp)
  · split at h1
    · rename_i l' hl
      obtain ⟨b, xs, rfl, z, q⟩ := ls_of q1 r1 hl
      refine ⟨b, xs, rfl, .inl ⟨z, fun p hp => ?_⟩⟩
      obtain ⟨z1, z2⟩ := new_res hp q1 (new_lst hp q.rev)
      exact k _ _ (w1.grown p _ hp) _ h1 (l1.trans (Le.grown _ _ _ _)) z1 z2
    · exact h1.elim
end
/-! #### comprehensions with two fors -/
def aLc2I (g1 : ATG) (t1 : ATT) (e : ATE) (δ1 : List (Option Sl)) (m n1 : Nat) (gd1 : List Res → Prop) (Nx : List Res → Prop) : List D → List Res → Prop
  | [], ρ => Nx ρ
  | d :: r, ρ => g1 (.dat d) ⟨δ1, ρ⟩ fun st2 => t1 st2 fun b ρ2 => if b = true then e ⟨st2.δ, ρ2⟩ fun s ρ3 => frz ρ3 (nrm ρ3 s) fun x ρ4 => ∃ acc, ρ4[m]? = some (.lst acc) ∧ acc.length < sizeLine ∧
      gd1 ((ρ4.set m (.lst (acc ++ [x]))).take n1) ∧ aLc2I g1 t1 e δ1 m n1 gd1 Nx r ((ρ4.set m (.lst (acc ++ [x]))).take n1) else gd1 (ρ2.take n1) ∧ aLc2I g1 t1 e δ1 m n1 gd1 Nx r (ρ2.take n1)
def aLc2L (g : ATG) (t : ATT) (it1 : AIt) (g1 : ATG) (t1 : ATT) (e : ATE) (vs1 : List Nat) (δ' : List (Option Sl)) (m : Nat) (gd : List Res → Prop) (Kc : AK) : List D → List Res → Prop
  | [], ρ => Kc (.res m) ρ
  | d :: r, ρ => g (.dat d) ⟨δ', ρ⟩ fun st1 => t st1 fun b ρ2 => if b = true then it1 ⟨st1.δ, ρ2⟩ fun items1 gd1 ρ3 => gd1 ρ3 ∧ aLc2I g1 t1 e (aWipe st1.δ vs1) m ρ3.length gd1 (fun ρ' => gd (ρ'.take (m + 1)) ∧ aLc2L g t it1 g1 t1 e vs1 δ' m gd Kc r (ρ'.take (m + 1))) items1 ρ3
      else gd (ρ2.take (m + 1)) ∧ aLc2L g t it1 g1 t1 e vs1 δ' m gd Kc r (ρ2.take (m + 1))
def aLc2T (it : AIt) (g : ATG) (t : ATT) (it1 : AIt) (g1 : ATG) (t1 : ATT) (e : ATE) (vs vs1 : List Nat) : ATE := fun st Kc => it st fun items gd ρ1 => gd (ρ1 ++ [.lst []]) ∧ aLc2L g t it1 g1 t1 e vs1 (aWipe st.δ vs) ρ1.length gd Kc items (ρ1 ++ [.lst []])
theorem wip_use {g : TG} {vs : List Nat} (hw : Wip g vs) {v : V} {σ : L2.St} {H : Hp} {Q : L2.St → Hp → Prop} (h : g v (wipe σ vs) H Q) : g v (wipe σ vs) H fun σ2 H2 => wipe σ2 vs = wipe σ vs ∧ Q σ2 H2 := by
  have q := hw v (wipe σ vs) H Q h
  rw [wipe_idem] at q
  exact q
section
variable {K : PySem.W.Frag} {w0 : W}
theorem sim_lc2T {wi wi1 : TI} {g g1 : TG} {tt tt1 : TT} {te : TE} {it it1 : AIt} {ag ag1 : ATG} {att att1 : ATT} {ae : ATE} {vs vs1 : List Nat} (hi : SimI K w0 wi it) (hg : SimG K w0 g ag) (hw : Wip g vs) (ht : SimT K w0 tt att)
    (hi1 : SimI K w0 wi1 it1) (hg1 : SimG K w0 g1 ag1) (hw1 : Wip g1 vs1) (ht1 : SimT K w0 tt1 att1) (he : SimE K w0 te ae) : SimE K w0 (tLc2 wi g tt wi1 g1 tt1 te vs vs1) (aLc2T it ag att it1 ag1 att1 ae vs vs1) := by
  intro w st σ Q Kc l r e h k
  refine hi w st σ _ _ l r e h fun items gd ρ1 w1 J hk l1 r1 ok => ?_
  intro p hp
  have z0 := new_res (x := .lst []) hp r1 (new_lst hp (xs := []) .nil)
  have LG := Le.grown w1 p (.lst []) hp
  have en : ρ1.length + 1 = (w1.grown p (.lst []) hp).as.length := by
    show _ = (w1.as ++ [p]).length
    rw [List.length_append, r1.len]; rfl
  refine ⟨fun i m H => ∃ w' ρ', w'.H = H ∧ Le (w1.grown p (.lst []) hp) w' ∧ RsR K w' ρ' ∧ i ≤ items.length ∧ m = items.length - i ∧ gd ρ' ∧ aLc2L ag att it1 ag1 att1 ae vs1 (aWipe st.δ vs) ρ1.length gd Kc (items.drop i) ρ',
    ⟨items.length, w1.grown p (.lst []) hp, _, rfl, .refl _, z0.2, Nat.zero_le _, by omega, hk.1, by rw [List.drop_zero]; exact hk.2⟩, ?_⟩
  have asp : ∀ {w' : W}, Le (w1.grown p (.lst []) hp) w' → w'.as[ρ1.length]? = some p := fun {w'} l' => by
    obtain ⟨m, em⟩ := l'.pre
    have e0 : (w1.grown p (.lst []) hp).as[ρ1.length]? = some p := by
      show (w1.as ++ [p])[ρ1.length]? = some p
      rw [r1.len, List.getElem?_append_right (Nat.le_refl _), Nat.sub_self]; rfl
    rw [em, List.getElem?_append_left (List.getElem?_eq_some_iff.mp e0).1]; exact e0
  rintro i m H ⟨w', ρ', rfl, l2, r2, hil, hm, g2, lp⟩
  have l12 := LG.trans l2
  by_cases hlt : i < items.length
  · have hd := List.getElem?_eq_getElem hlt
    obtain ⟨go, yl⟩ := ok.item w' ρ' i _ l12 r2 g2 hd
    rw [List.drop_eq_getElem_cons hlt] at lp
    refine .inr ⟨go, fun H' => ∃ w'' ρ'', w''.H = H' ∧ Le (w1.grown p (.lst []) hp) w'' ∧ RsR K w'' ρ'' ∧ gd ρ'' ∧ aLc2L ag att it1 ag1 att1 ae vs1 (aWipe st.δ vs) ρ1.length gd Kc (items.drop (i + 1)) ρ'', fun H' ⟨w'', ρ'', z1, z2, z3, z4, z5⟩ => ⟨items.length - (i + 1), by omega, w'', ρ'', z1, z2, z3, hlt, rfl, z4, z5⟩, fun x H' y => ?_⟩
    obtain ⟨w3, l3, rfl, r3, rv⟩ := yl x H' y
    have L := l1.trans (l12.trans l3)
    have e3 : RE K w3 (aWipe st.δ vs) (wipe σ vs) := (e.mono L).wip vs
    refine wip_use hw ?_
    refine hg w3 ⟨aWipe st.δ vs, ρ'⟩ (wipe σ vs) x _ _ _ (l.trans L) r3 e3 (show RS K w3 x (.dat _) from rv) lp fun st4 σ4 w4 h4 l4 r4 e4 => ?_
    refine ht w4 st4 σ4 _ _ (l.trans (L.trans l4)) r4 e4 h4 fun b ρ5 w5 h5 l5 r5 => ?_
    have L5 := L.trans (l4.trans l5)
    have LP5 := l2.trans (l3.trans (l4.trans l5))
    split
    · rename_i hb
      rw [if_pos hb] at h5
      refine hi1 w5 ⟨st4.δ, ρ5⟩ σ4 _ _ (l.trans L5) r5 (e4.mono l5) h5 fun items1 gd1 ρ6 w6 J1 hk1 l6 r6 ok1 => ?_
      have en1 : ρ6.length = w6.as.length := r6.len
      have L6 := L5.trans l6
      have LP6 := LP5.trans l6
      refine ⟨fun j k H => ∃ w'' ρ'', w''.H = H ∧ Le w6 w'' ∧ RsR K w'' ρ'' ∧ j ≤ items1.length ∧ k = items1.length - j ∧ gd1 ρ'' ∧ aLc2I ag1 att1 ae (aWipe st4.δ vs1) ρ1.length ρ6.length gd1 (fun ρ' => gd (ρ'.take (ρ1.length + 1)) ∧ aLc2L ag att it1 ag1 att1 ae vs1 (aWipe st.δ vs) ρ1.length gd Kc (items.drop (i + 1)) (ρ'.take (ρ1.length + 1))) (items1.drop j) ρ'',
        ⟨items1.length, w6, ρ6, rfl, .refl _, r6, Nat.zero_le _, by omega, hk1.1, by rw [List.drop_zero]; exact hk1.2⟩, ?_⟩
      rintro j k H ⟨w7, ρ7, rfl, l7, r7, hj, hk7, g7, lp7⟩
      by_cases hj' : j < items1.length
      · have hd1 := List.getElem?_eq_getElem hj'
        obtain ⟨go1, yl1⟩ := ok1.item w7 ρ7 j _ l7 r7 g7 hd1
        rw [List.drop_eq_getElem_cons hj'] at lp7
        refine .inr ⟨go1, fun H' => ∃ w'' ρ'', w''.H = H' ∧ Le w6 w'' ∧ RsR K w'' ρ'' ∧ gd1 ρ'' ∧ aLc2I ag1 att1 ae (aWipe st4.δ vs1) ρ1.length ρ6.length gd1 (fun ρ' => gd (ρ'.take (ρ1.length + 1)) ∧ aLc2L ag att it1 ag1 att1 ae vs1 (aWipe st.δ vs) ρ1.length gd Kc (items.drop (i + 1)) (ρ'.take (ρ1.length + 1))) (items1.drop (j + 1)) ρ'',
          fun H' ⟨w'', ρ'', z1, z2, z3, z4, z5⟩ => ⟨items1.length - (j + 1), by omega, w'', ρ'', z1, z2, z3, hj', rfl, z4, z5⟩, fun x1 H1' y1 => ?_⟩
        obtain ⟨w8, l8, rfl, r8, rv8⟩ := yl1 x1 H1' y1
        have L8 := L6.trans (l7.trans l8)
        refine wip_use hw1 ?_
        refine hg1 w8 ⟨aWipe st4.δ vs1, ρ7⟩ (wipe σ4 vs1) x1 _ _ _ (l.trans L8) r8 (((e4.mono (l5.trans (l6.trans (l7.trans l8)))).wip vs1)) (show RS K w8 x1 (.dat _) from rv8) lp7 fun st9 σ9 w9 h9 l9 r9 e9 => ?_
        refine ht1 w9 st9 σ9 _ _ (l.trans (L8.trans l9)) r9 e9 h9 fun b1 ρ10 w10 h10 l10 r10 => ?_
        have L10 := L8.trans (l9.trans l10)
        have LI10 := l7.trans (l8.trans (l9.trans l10))
        split
        · rename_i hb1
          rw [if_pos hb1] at h10
          refine he w10 ⟨st9.δ, ρ10⟩ σ9 _ _ (l.trans L10) r10 (e9.mono l10) h10 fun s ρ11 w11 v h11 l11 r11 q11 => ?_
          obtain ⟨d, ρ12, w12, h12, l12', e12, r12, q12⟩ := sim_frz q11 (r11.nrm q11) h11
          obtain ⟨acc, ha, hal, hgd, hrest⟩ := h12
          have hp12 := asp (LP6.trans (LI10.trans (l11.trans l12')))
          obtain ⟨ng, xs, hx, qx⟩ := q12.at_ _ p _ hp12 ha
          rw [← e12]
          have hR : RR K (w12.wrote p (.lst (xs ++ [v])) (as_mem hp12)) p (.lst (acc ++ [d])) := ⟨ng, _, upd_same, (qx.app (.cons r12 .nil)).mono (Le.wrote w12 p _ _ ng)⟩
          exact ⟨xs, hx, by rw [qx.len]; exact hal, (w12.wrote p _ (as_mem hp12)).cut ρ6.length, _, rfl, (LI10.trans (l11.trans (l12'.trans (Le.wrote w12 p _ _ ng)))).cut en1, (q12.wrote hp12 ng hR).cut _, hgd, hrest⟩
        · rename_i hb1
          rw [if_neg hb1] at h10
          exact ⟨w10.cut ρ6.length, _, rfl, LI10.cut en1, r10.cut _, h10.1, h10.2⟩
      · have hn : j = items1.length := by omega
        subst hn
        rw [List.drop_length] at lp7
        exact .inl ⟨ok1.stop w7 ρ7 l7 r7 g7, w7.cut (ρ1.length + 1), _, rfl, (LP6.trans l7).cut en, r7.cut _, lp7.1, lp7.2⟩
    · rename_i hb
      rw [if_neg hb] at h5
      exact ⟨w5.cut (ρ1.length + 1), _, rfl, LP5.cut en, r5.cut _, h5.1, h5.2⟩
  · have hn : i = items.length := by omega
    subst hn
    rw [List.drop_length] at lp
    exact .inl ⟨ok.stop w' ρ' l12 r2 g2, k _ _ w' _ lp (l1.trans l12) ⟨p, asp l2, rfl⟩ r2⟩
end
end An
namespace An
open PySem PySem.Spec PyProof.Rows L2 Ov
theorem sb_extendX {K : PySem.W.Frag} : SimB K (rExtendX K) fExtendX := by
  intro w ρ x s xs ss Q Kc r rx rs h k
  unfold fExtendX at h
  split at h
  · rename_i kk zs
    obtain ⟨v, rfl, rv⟩ := one_of rs
    obtain ⟨a, ha, rfl⟩ := rx
    obtain ⟨l, hk, hl, h⟩ := h
    obtain ⟨b, rfl, hs⟩ := tup_stays rv
    obtain ⟨ys, z, q⟩ := hs w (.refl w)
    obtain ⟨ng, us, hx, qx⟩ := r.at_ kk a _ ha hk
    have L2 := Le.wrote w a (.lst (us ++ ys)) (as_mem ha) ng
    have hR : RR K (w.wrote a (.lst (us ++ ys)) (as_mem ha)) a (.lst (l ++ zs)) := ⟨ng, _, upd_same, (qx.app q).mono L2⟩
    exact .inr ⟨a, b, us, ys, rfl, rfl, hx, z, by rw [qx.len, q.len]; exact hl, k _ _ (w.wrote a _ (as_mem ha)) _ h L2 (show RV K _ _ _ from .non) (r.wrote ha ng hR)⟩
  · rename_i kk j
    obtain ⟨v, rfl, rv⟩ := one_of rs
    obtain ⟨a, ha, rfl⟩ := rx
    obtain ⟨b, hb, rfl⟩ := rv
    obtain ⟨l, zs, hk, hj, hl, h⟩ := h
    obtain ⟨ng2, ys, hy, q⟩ := r.at_ j b _ hb hj
    obtain ⟨ng, us, hx, qx⟩ := r.at_ kk a _ ha hk
    have L2 := Le.wrote w a (.lst (us ++ ys)) (as_mem ha) ng
    have hR : RR K (w.wrote a (.lst (us ++ ys)) (as_mem ha)) a (.lst (l ++ zs)) := ⟨ng, _, upd_same, (qx.app q).mono L2⟩
    exact .inl ⟨a, b, us, ys, rfl, rfl, hx, hy, by rw [qx.len, q.len]; exact hl, k _ _ (w.wrote a _ (as_mem ha)) _ h L2 (show RV K _ _ _ from .non) (r.wrote ha ng hR)⟩
  · exact h.elim
/-! one step -/
section
variable {δ : List (Option Sl)} {ρ : List Res} {Kc : AK} {a : ATE} {x s : Sl} {k : Nat} {l zs : List D}
theorem s_rev (h : a ⟨δ, ρ⟩ fun s ρ1 => fRev s ρ1 Kc) : aRev a ⟨δ, ρ⟩ Kc := h
theorem s_revT (e : x = .dat (.tup l)) (h : Kc (.dat (.tup l.reverse)) ρ) : fRev x ρ Kc := by subst e; exact h
theorem s_revL (e : lsOf ρ x = some l) (h : newR Kc (.lst l.reverse) ρ) : fRev x ρ Kc := by
  unfold fRev
  split
  · cases e
  · rw [e]; exact h
theorem s_extT (e : x = .res k) (e2 : s = .dat (.tup zs)) (e3 : ρ[k]? = some (.lst l)) (hl : l.length + zs.length ≤ sizeLine) (h : Kc (.dat .non) (ρ.set k (.lst (l ++ zs)))) : fExtendX x [s] ρ Kc := by subst e e2; exact ⟨l, e3, hl, h⟩
theorem s_lc2T {it it1 : AIt} {g g1 : ATG} {t t1 : ATT} {e : ATE} {vs vs1 : List Nat} (h : it ⟨δ, ρ⟩ fun items gd ρ1 => gd (ρ1 ++ [.lst []]) ∧ aLc2L g t it1 g1 t1 e vs1 (aWipe δ vs) ρ1.length gd Kc items (ρ1 ++ [.lst []])) : aLc2T it g t it1 g1 t1 e vs vs1 ⟨δ, ρ⟩ Kc := h
theorem s_yes {Kb : Bool → List Res → Prop} (h : Kb true ρ) : aYes ⟨δ, ρ⟩ Kb := h
theorem lc2_out {it1 : AIt} {g g1 : ATG} {t t1 : ATT} {e : ATE} {vs1 : List Nat} {δ' : List (Option Sl)} {m : Nat} {gd : List Res → Prop} {items : List D} (I : Nat → List Res → Prop) (h0 : I 0 ρ)
    (hs : ∀ i d ρ (N : List Res → Prop), items[i]? = some d → (∀ ρ', I (i + 1) ρ' → gd ρ' → N ρ') → I i ρ → g (.dat d) ⟨δ', ρ⟩ fun st1 => t st1 fun b ρ2 => if b = true then it1 ⟨st1.δ, ρ2⟩ fun items1 gd1 ρ3 => gd1 ρ3 ∧ aLc2I g1 t1 e (aWipe st1.δ vs1) m ρ3.length gd1 (fun ρ' => N (ρ'.take (m + 1))) items1 ρ3 else N (ρ2.take (m + 1)))
    (hd : ∀ ρ, I items.length ρ → Kc (.res m) ρ) : aLc2L g t it1 g1 t1 e vs1 δ' m gd Kc items ρ := by
  have key : ∀ (r : List D) (i : Nat) (ρ : List Res), r = items.drop i → i ≤ items.length → I i ρ → aLc2L g t it1 g1 t1 e vs1 δ' m gd Kc r ρ := by
    intro r
    induction r with
    | nil =>
      intro i ρ e' hi hI
      have : i = items.length := by
        have := congrArg List.length e'
        rw [List.length_drop] at this
        simp at this
        omega
      subst this
      exact hd ρ hI
    | cons d r ih =>
      intro i ρ e' hi hI
      have hlt : i < items.length := by
        rcases Nat.lt_or_ge i items.length with z | z
        · exact z
        · rw [List.drop_eq_nil_of_le z] at e'; cases e'
      rw [List.drop_eq_getElem_cons hlt] at e'
      injection e' with e1 e2
      exact hs i d ρ (fun ρ' => gd ρ' ∧ aLc2L g t it1 g1 t1 e vs1 δ' m gd Kc r ρ') (by rw [e1]; exact List.getElem?_eq_getElem hlt) (fun ρ' h2 hg => ⟨hg, ih (i + 1) ρ' e2 hlt h2⟩) hI
  exact key items 0 ρ rfl (Nat.zero_le _) h0
theorem lc2_in {g1 : ATG} {t1 : ATT} {e : ATE} {δ1 : List (Option Sl)} {m n1 : Nat} {gd1 Nx : List Res → Prop} {items : List D} (I : Nat → List Res → Prop) (h0 : I 0 ρ)
    (hs : ∀ i d ρ (N : List Res → Prop), items[i]? = some d → (∀ ρ', I (i + 1) ρ' → gd1 ρ' → N ρ') → I i ρ → g1 (.dat d) ⟨δ1, ρ⟩ fun st2 => t1 st2 fun b ρ2 => if b = true then e ⟨st2.δ, ρ2⟩ fun s ρ3 => frz ρ3 (nrm ρ3 s) fun x ρ4 => ∃ acc, ρ4[m]? = some (.lst acc) ∧ acc.length < sizeLine ∧ N ((ρ4.set m (.lst (acc ++ [x]))).take n1) else N (ρ2.take n1))
    (hd : ∀ ρ, I items.length ρ → Nx ρ) : aLc2I g1 t1 e δ1 m n1 gd1 Nx items ρ := by
  have key : ∀ (r : List D) (i : Nat) (ρ : List Res), r = items.drop i → i ≤ items.length → I i ρ → aLc2I g1 t1 e δ1 m n1 gd1 Nx r ρ := by
    intro r
    induction r with
    | nil =>
      intro i ρ e' hi hI
      have : i = items.length := by
        have := congrArg List.length e'
        rw [List.length_drop] at this
        simp at this
        omega
      subst this
      exact hd ρ hI
    | cons d r ih =>
      intro i ρ e' hi hI
      have hlt : i < items.length := by
        rcases Nat.lt_or_ge i items.length with z | z
        · exact z
        · rw [List.drop_eq_nil_of_le z] at e'; cases e'
      rw [List.drop_eq_getElem_cons hlt] at e'
      injection e' with e1 e2
      exact hs i d ρ (fun ρ' => gd1 ρ' ∧ aLc2I g1 t1 e δ1 m n1 gd1 Nx r ρ') (by rw [e1]; exact List.getElem?_eq_getElem hlt) (fun ρ' h2 hg => ⟨hg, ih (i + 1) ρ' e2 hlt h2⟩) hI
  exact key items 0 ρ rfl (Nat.zero_le _) h0
end
end An
namespace An
theorem n_gtup {l : List D} {n : Nat} {ss : List Sl} {gs : ATGs} {x : Sl} {δ : List (Option Sl)} {ρ : List Res} {Ks : ASt → Prop} (e : x = .dat (.tup l)) (e2 : l.length = n) (e3 : l.map Sl.dat = ss) (h : gs ss ⟨δ, ρ⟩ Ks) : aGTup n gs x ⟨δ, ρ⟩ Ks := by subst e3; exact s_gtup e e2 h
end An
namespace An
open PySem PySem.Spec PyProof.Rows L2 Ov
theorem whileT {c : ATT} {b : ATS} {nx bk ct : ASt → Prop} {rt : AK} {δ : List (Option Sl)} {ρ : List Res} {n : Nat} (hn : ρ.length = n) (I : Nat → ASt → Prop) (S : ASt → Prop) (m0 : Nat) (h0 : I m0 ⟨δ, ρ⟩)
    (hs : ∀ m st1 (N Y : ASt → Prop), (∀ st2 m', m' < m → I m' (trim n st2) → N st2) → (∀ st2, S (trim n st2) → Y st2) → I m st1 → c st1 fun k ρ1 => if k = true then b ⟨N, rt, Y, N⟩ ⟨st1.δ, ρ1⟩ else Y ⟨st1.δ, ρ1⟩)
    (hd : ∀ st', S st' → nx st') : aWhileT c b ⟨nx, rt, bk, ct⟩ ⟨δ, ρ⟩ := by
  subst hn
  exact ⟨I, ⟨m0, h0⟩, fun m st1 h1 => hs m st1 (fun st2 => ∃ m' < m, I m' (trim ρ.length st2)) (fun st2 => nx (trim ρ.length st2)) (fun st2 m' hm h => ⟨m', hm, h⟩) (fun st2 h => hd _ h) h1⟩
end An
namespace An
theorem nrm_lst {ρ : List Res} {k : Nat} {l : List D} (h : ρ[k]? = some (.lst l)) : nrm ρ (.res k) = .res k := by unfold nrm; dsimp only; rw [h]
theorem lstOf_res {ρ : List Res} {k : Nat} {l : List D} (h : ρ[k]? = some (.lst l)) : lstOf ρ (.res k) = some l := by unfold lstOf; dsimp only; rw [h]
theorem lsOf_res {ρ : List Res} {k : Nat} {l : List D} (h : ρ[k]? = some (.lst l)) : lsOf ρ (.res k) = some l := by unfold lsOf; dsimp only; rw [h]
theorem seqOf_res {ρ : List Res} {k : Nat} {l : List D} (h : ρ[k]? = some (.lst l)) : seqOf ρ (.res k) = some l := by unfold seqOf; dsimp only; rw [h]
theorem get_app {α : Type} {ρ r : List α} {k : Nat} {x : α} (h : ρ[k]? = some x) : (ρ ++ r)[k]? = some x := by rw [List.getElem?_append_left (List.getElem?_eq_some_iff.mp h).1]; exact h
end An
namespace An
open PySem PySem.Spec PyProof.Rows L2 Ov
theorem s_ltS {x y : Sl} {z u : Str} {ρ : List Res} {Kc : AK} (e1 : x = .dat (.str z)) (e2 : y = .dat (.str u)) (h : Kc (.dat (.bl (decide (z.cps.toList < u.cps.toList)))) ρ) : fLtS x y ρ Kc := by subst e1 e2; exact h
end An
namespace An
open PySem PySem.Spec PyProof.Rows L2 Ov
theorem n_starKV {ad : ATE} {ik iv : Nat} {δ : List (Option Sl)} {ρ ρ0 : List Res} {Kc : AK} (e : ρ ++ [.dic []] = ρ0) (h : ad ⟨δ, ρ0⟩ fun x ρ1 => ρ1 = ρ0 ∧ x ≠ .res ρ.length ∧ ∃ kvs, dicOf ρ1 x = some kvs ∧ kvs.length < sizeLine ∧
  ∃ yd key zd, δ[ik]? = some (some (.dat yd)) ∧ keyOf yd = some key ∧ δ[iv]? = some (some (.dat zd)) ∧ Kc (.res ρ.length) (ρ ++ [.dic (putD kvs key zd)] ++ [.dic [(key, zd)]])) : aStarKV ad ik iv ⟨δ, ρ⟩ Kc := by subst e; exact h
end An

set_option Elab.async false
set_option linter.all false
set_option maxRecDepth 100000
set_option maxHeartbeats 2000000
namespace Ov
open PySem PySem.Spec PyProof.Rows L2 An
local macro_rules | `(tactic| walk_at "nf") => `(tactic| ((try simp only [setAll_nil, setAll, List.set, List.map_cons, List.map_nil, aWipe, List.replicate, List.cons_append, List.nil_append, List.append_assoc, List.length_cons, List.length_nil, Nat.reduceAdd, Nat.zero_add]); first | done | exact rfl))
local macro_rules | `(tactic| walk_at "a1") => `(tactic| (first
  | with_reducible refine s_seq ?_ | with_reducible refine s_asg ?_ | ((with_reducible show aName _ _ _ _); refine n_name (by walk_at "nf") ?_) | with_reducible refine s_ret ?_ | with_reducible refine s_drop ?_ | with_reducible refine s_next ?_ | with_reducible refine s_retN ?_ | with_reducible refine s_cont ?_ | with_reducible refine s_break ?_
  | with_reducible refine s_ifS ?_ | with_reducible refine s_if ?_ | with_reducible refine s_op ?_ | with_reducible refine s_un ?_ | with_reducible refine s_test ?_ | with_reducible refine s_kTest ?_ | with_reducible refine s_c ?_ | with_reducible refine s_cons ?_ | with_reducible refine s_nil ?_
  | with_reducible refine s_cb ?_ | with_reducible refine s_chain ?_ | with_reducible refine s_and ?_ | with_reducible refine s_or ?_ | with_reducible refine s_not ?_ | with_reducible refine s_andV ?_ | with_reducible refine s_orV ?_ | with_reducible refine s_notV ?_
  | with_reducible refine s_sl ?_ | with_reducible refine s_noPart ?_ | with_reducible refine s_part ?_ | with_reducible refine s_kPart ?_ | with_reducible refine s_raise ?_ | ((with_reducible show kOne _ _ _); with_reducible refine s_kOne ?_) | with_reducible refine s_fld ?_ | with_reducible refine s_sfld ?_
  | with_reducible refine s_tup ?_ | with_reducible refine n_lst ?_ | ((with_reducible show newR _ _ _); refine n_newR (by walk_at "nf") (by walk_at "nf") ?_) | with_reducible refine s_tupE (by simp [sizeLine_eq]) ?_ | with_reducible refine s_frzs0 ?_ | with_reducible refine s_frzs1 ?_ | with_reducible refine n_dnew ?_ | with_reducible refine s_sub ?_ | with_reducible refine s_fn ?_ | with_reducible refine s_args0 ?_ | with_reducible refine s_gnil ?_ | with_reducible refine s_bm ?_
  | ((with_reducible show aDone _ _ _ (.dat _) _); refine n_doneD (by walk_at "nf") ?_) | ((with_reducible show aDone _ _ _ (.res _) _); refine n_doneR (by walk_at "nf") (by walk_at "nf") ?_) | with_reducible refine s_for ?_ | with_reducible refine s_forT ?_ | with_reducible refine s_lcT ?_ | with_reducible refine s_lc2T ?_ | with_reducible refine s_yes ?_ | with_reducible refine s_rev ?_ | with_reducible refine s_iR ?_ | with_reducible refine s_iL ?_ | with_reducible refine s_iT ?_ | with_reducible refine s_iS ?_
  | ((with_reducible show aVar _ _ _); first | refine s_varD rfl ?_ | refine s_varR rfl rfl trivial ?_ | refine s_varF rfl rfl ?_ | refine s_var rfl rfl ?_)
  | ((with_reducible show kPart _ _ _); refine s_kPart ?_)
  | ((with_reducible show fAdd _ _ _ _); refine s_addI rfl rfl ?_)
  | ((with_reducible show iI _ _ _ _ _ _); refine s_iI rfl rfl (by first | trivial | omega | decide) ?_)
  | ((with_reducible show fIx _ _ _ _); refine s_ixQ rfl rfl rfl ?_)
  | ((with_reducible show fEq _ _ _ _ _); first | refine s_eqI rfl rfl ?_ | refine s_eqS rfl rfl ?_)
  | ((with_reducible show fLen _ _ _); refine s_lenQ rfl ?_)
  | ((with_reducible show fInt _ _ _); first | refine s_intI rfl ?_ | refine s_intB rfl ?_)
  | ((with_reducible show fIsN _ _ _ _ _); refine s_isN rfl ?_)
  | ((with_reducible show fIsi _ _ _); refine s_isi rfl (by simp [tyNames]) rfl ?_)
  | ((with_reducible show frz _ _ _); first | refine s_frzD rfl ?_ | refine n_frzR rfl rfl (by walk_at "nf") ?_)
  | ((with_reducible show aGTup _ _ _ _ _); refine n_gtup rfl rfl (by walk_at "nf") ?_)
  | ((with_reducible show aGCons _ _ _ _ _); refine s_gcons ?_)
  | ((with_reducible show args _ _ _ _); first | refine s_argsD rfl ?_ | refine s_argsF rfl ?_ | refine s_argsR' rfl ?_)
  | ((with_reducible show _ ∉ _ ∧ (∃ _, _)); refine s_argsE (by first | (simp; done) | exact fun h => Nat.ne_of_beq_eq_false rfl (List.mem_singleton.mp h)) rfl ?_)
  | ((with_reducible show kFld _ _ _ _ _); first | refine s_kFldR rfl rfl lk_hd ?_ | refine s_kFldR rfl rfl lk_2 ?_ | refine s_kFldO rfl lk_hd ?_ | refine s_kFldO rfl lk_2 ?_)
  | ((with_reducible show kSFld _ _ _ _ _ _); first | refine s_kSFldR rfl rfl (by simp) pf_nil ?_ | refine s_kSFldR rfl rfl (by simp) pf_hd ?_ | refine s_kSFldR rfl rfl (by simp) pf_new ?_ | refine s_kSFldR rfl rfl (by simp) pf_2 ?_)
  | ((with_reducible show fNeg _ _ _); refine s_neg rfl ?_)
  | ((with_reducible show setX _ _ _ _ _); refine s_setL rfl rfl rfl rfl ?_)))
local macro_rules | `(tactic| walk_at "aw") => `(tactic| repeat walk_at "a1")
local macro_rules | `(tactic| walk_at "ai") => `(tactic| repeat (first | walk_at "a1" | refine q_T ?_ | refine q_F ?_))
local macro_rules | `(tactic| walk_at "as") => `(tactic| repeat ((fail_if_success with_reducible show aSeq (aIfS _ _ _) _ _ _); walk_at "a1"))
local macro_rules | `(tactic| walk_at "st") => `(tactic| dsimp only [aStart, agS, aEnds, List.length_cons, List.length_nil, Nat.reduceSub, Nat.reduceAdd, List.replicate, List.cons_append, List.nil_append])

structure Ad where
  c_BadKind : Addr
  c_BadName : Addr
  c_BadNumber : Addr
  c_Book : Addr
  c_Clash : Addr
  c_TooLarge : Addr
  c_UnknownStep : Addr
  i_BadKind : Addr
  i_BadName : Addr
  i_BadNumber : Addr
  i_Clash : Addr
  i_TooLarge : Addr
  i_UnknownStep : Addr
  t_BOTH : Addr
  t_CALMING : Addr
  t_CELL_SIZES : Addr
  t_DONE : Addr
  t_KINDS_WITH_NAME : Addr
  t_KINDS_WITH_NUMBER : Addr




abbrev g_GREATEST_NUMBER : V := .int 999


abbrev g_LETTERS : V := .str "abcdefghijklmnopqrstuvwxyz"
abbrev g_LETTERS_AND_DIGITS : V := .str "abcdefghijklmnopqrstuvwxyz0123456789"
abbrev g_LONGEST_NAME : V := .int 12
structure Caught (K : PySem.W.Frag) (A : Ad) : Prop where
  o_Book : InsC K A.c_Book
  io_Book : PySem.W.kitOne K (.ref A.c_Book) (.ref A.c_Book) = some true
  t_BOTH : ∀ H : Hp, SqT K H A.t_BOTH [.str "done", .str "error"]
  t_CALMING : ∀ H : Hp, SqT K H A.t_CALMING [.str "heal", .str "jump"]
  t_CELL_SIZES : ∀ H : Hp, SqT K H A.t_CELL_SIZES [.int 2, .int 3]
  t_DONE : ∀ H : Hp, SqT K H A.t_DONE [.str "done"]
  t_KINDS_WITH_NAME : ∀ H : Hp, SqT K H A.t_KINDS_WITH_NAME [.str "jump", .str "swap"]
  t_KINDS_WITH_NUMBER : ∀ H : Hp, SqT K H A.t_KINDS_WITH_NUMBER [.str "answer", .str "heal"]
/-! ### numbers -/
theorem mul_ok {i j : Int} (a : Nat) (ha : i.natAbs < 2 ^ a) (hb : j.natAbs < 2 ^ 64) (h0 : 0 < a) (h : a ≤ 9000) : CMulW i j := wide_mul ha hb h0 (by decide) (by omega)
theorem mul64 {i j : Int} (ha : i.natAbs < 18446744073709551616) (hb : j.natAbs < 18446744073709551616) : CMulW i j := wide_mul (a := 64) (b := 64) (by simpa using ha) (by simpa using hb) (by decide) (by decide) (by decide)
theorem at_of {α : Type} {xs : List α} {i : Int} {v : α} (h0 : 0 ≤ i) (h : xs[i.toNat]? = some v) : atI xs i = some v := by
  have hl := (List.getElem?_eq_some_iff.mp h).1
  unfold atI ixN
  rw [if_pos h0, if_pos (by omega)]
  exact h
/-- a pool of draws -/
def PoolD (r : List D) : Prop := ∃ (cs : List Int) (a b c d : Int), r = [.lst (cs.map .int), .int a, .int b, .int c, .int d] ∧ 0 ≤ a ∧ 0 ≤ c ∧ c < 10 ^ 18 ∧ d ≤ 7
def F__law_mixed (_ : Ad) : AF := fun ags R _ => ∃ c t l : Int, ags = [.dat (.int c), .dat (.int t), .dat (.int l)] ∧ 0 ≤ c ∧ c < 10 ^ 18 ∧ 0 ≤ t ∧ t ≤ 7 ∧ 0 < l ∧ ∀ r : Int, 0 ≤ r → r < l → R (.dat (.int r)) []
def t__law_mixed (K : PySem.W.Frag) (A : Ad) : TS :=
  (tSeq (tAsg (tOp oMod (tCB cInt (tCons (tOp (oAddX K) (tOp (oAddX K) (tOp oMul (tVar 0) (tC (.int 48271))) (tOp oMul (tVar 1) (tC (.int 69621)))) (tC (.int 11))) tNil)) (tC (.int 2147483647))) (gName 3))
  (tSeq (tAsg (tOp oMod (tCB cInt (tCons (tOp (oAddX K) (tOp (oAddX K) (tOp oMul (tVar 3) (tC (.int 40692))) (tOp oMul (tVar 0) (tC (.int 16807)))) (tOp oMul (tVar 1) (tC (.int 30269)))) tNil)) (tC (.int 2147483399))) (gName 4))
  (tSeq (tAsg (tOp oMod (tCB cInt (tCons (tOp (oAddX K) (tOp oMul (tVar 4) (tC (.int 39373))) (tOp oDiv (tVar 3) (tC (.int 7)))) tNil)) (tC (.int 1000000007))) (gName 5))
  (tRet (tOp oMod (tCB cInt (tCons (tVar 5) tNil)) (tVar 2))))))
abbrev sp__law_mixed (K : PySem.W.Frag) (A : Ad) : Sp := Conc K (F__law_mixed A)
def a__law_mixed (A : Ad) : ATS :=
  (aSeq (aAsg (aOp fMod (aCB fInt (aCons (aOp fAdd (aOp fAdd (aOp fMul (aVar 0) (aC (.int 48271))) (aOp fMul (aVar 1) (aC (.int 69621)))) (aC (.int 11))) aNil)) (aC (.int 2147483647))) (aName 3))
  (aSeq (aAsg (aOp fMod (aCB fInt (aCons (aOp fAdd (aOp fAdd (aOp fMul (aVar 3) (aC (.int 40692))) (aOp fMul (aVar 0) (aC (.int 16807)))) (aOp fMul (aVar 1) (aC (.int 30269)))) aNil)) (aC (.int 2147483399))) (aName 4))
  (aSeq (aAsg (aOp fMod (aCB fInt (aCons (aOp fAdd (aOp fMul (aVar 4) (aC (.int 39373))) (aOp fDiv (aVar 3) (aC (.int 7)))) aNil)) (aC (.int 1000000007))) (aName 5))
  (aRet (aOp fMod (aCB fInt (aCons (aVar 5) aNil)) (aVar 2))))))
theorem sim__law_mixed {K : PySem.W.Frag} {A : Ad} (TX : Caught K A) {w0 : W} {E : XK} {X : XA} (hX : XOk K w0 E X) : SimS K w0 (t__law_mixed K A) (a__law_mixed A) :=
  (sim_seq (sim_asg (sim_op so_mod (sim_cb sc_int (sim_cons (sim_op so_add (sim_op so_add (sim_op so_mul sim_var (sim_c fun w => .int _)) (sim_op so_mul sim_var (sim_c fun w => .int _))) (sim_c fun w => .int _)) sim_nil)) (sim_c fun w => .int _)) sim_name)
  (sim_seq (sim_asg (sim_op so_mod (sim_cb sc_int (sim_cons (sim_op so_add (sim_op so_add (sim_op so_mul sim_var (sim_c fun w => .int _)) (sim_op so_mul sim_var (sim_c fun w => .int _))) (sim_op so_mul sim_var (sim_c fun w => .int _))) sim_nil)) (sim_c fun w => .int _)) sim_name)
  (sim_seq (sim_asg (sim_op so_mod (sim_cb sc_int (sim_cons (sim_op so_add (sim_op so_mul sim_var (sim_c fun w => .int _)) (sim_op so_div sim_var (sim_c fun w => .int _))) sim_nil)) (sim_c fun w => .int _)) sim_name)
  (sim_ret (sim_op so_mod (sim_cb sc_int (sim_cons sim_var sim_nil)) sim_var)))))
theorem ax__law_mixed {A : Ad} {ags : List Ag} {R : Ag → List Res → Prop} {X : XA} (h : F__law_mixed A ags R X) : a__law_mixed A (aEnds (agS 0 ags).2.length R) (aStart 6 ags) := by
  obtain ⟨c, t, l, rfl, h1, h2, h3, h4, h5, k⟩ := h
  have e18 : (10 : Int) ^ 18 = 1000000000000000000 := by decide
  rw [e18] at h2
  unfold a__law_mixed
  simp [aSeq, aAsg, aVar, aC, aOp, aNil, aCons, aTest, kTest, aAnd, aOr, aNot, aAndV, aOrV, aNotV, aIf, aChain, aTup, aLst, aUn, aCB, aNoPart, aPart, kPart, aSl, aNext, aName, aDrop, aRet, aRetN, aBreak, aCont, aIfS, aRaise, kOne, aGNil, aGCons, aGTup, nrm, frz, frzs, iI, aFn, args, setAll, aDone, aStart, aEnds, agS, fAdd, fMul, fIx, fEq, fIn, fIsN, eqK, scD, toV, dOf, seqOf, lsOf, lstOf, dicOf, keyOf, scal, fLen, fInt, fAbs, fTuple, fList, fIsi, tyD, fSl, setX, aSub, aFld, kFld, fldOf, asFld, kSFld, putFD, aMeth, aObj, aProp, fIxO, fInO, fCmpO, aLenO, kNat, aSubO, aMake, aBML, fAppend, aDNew, aStarKV, aKV1, aUpper, aTruth, fAll, fNeg, fLtS, Res.data, aNever]
  refine ⟨mul64 (by omega) (by decide), mul64 (by omega) (by decide), mul64 (by omega) (by decide), mul64 (by omega) (by decide), mul64 (by omega) (by decide), mul64 (by omega) (by decide), wide_div (b := 30) (by decide) (by decide) (by decide) (by decide), h5, k _ (Int.emod_nonneg _ (by omega)) (Int.emod_lt_of_pos _ h5)⟩
theorem pure__law_mixed {K : PySem.W.Frag} {A : Ad} (TX : Caught K A) {vs : List V} {H : Hp} {Q : VK} {E : XK} (h : sp__law_mixed K A vs H Q E) : t__law_mixed K A { nx := fun _ H' => Q .non H', rt := Q } (L2.start ["_law_cell", "_law_turn", "_law_limit", "_law_first", "_law_second", "_law_third"] vs) H :=
  fn_ok (a := fun X => a__law_mixed A) (fun w0 X hX => sim__law_mixed TX hX) (fun ags R X hF => ax__law_mixed hF) h
def F__law_draw (_ : Ad) : AF := fun ags R _ => ∃ (r : List D) (l : Int), ags = [.res (.lst r), .dat (.int l)] ∧ PoolD r ∧ 0 < l ∧ l < 2 ^ 60 ∧ ∀ (v : Int) (r' : List D), 0 ≤ v → v < l → PoolD r' → R (.dat (.int v)) [.lst r']
def t__law_draw (K : PySem.W.Frag) (A : Ad) : TS :=
  (tSeq (tIfS (tTest (tOp oGt (tOp (oIxX K) (tVar 0) (tC (.int 2))) (tC (.int 0))))
  (tSeq (tAsg (tOp oMod (tCB cInt (tCons (tOp (oIxX K) (tVar 0) (tC (.int 2))) tNil)) (tVar 1)) (gName 3))
  (tSeq (tAsg (tOp oDiv (tOp (oIxX K) (tVar 0) (tC (.int 2))) (tVar 1)) (gSub (tVar 0) (tC (.int 2)) rSetX))
  (tRet (tVar 3))))
  tNext)
  (tSeq (tIfS (tTest (tOp oGt (tOp (oIxX K) (tVar 0) (tC (.int 4))) (tC (.int 0))))
  (tSeq (tAsg (tOp oSub (tOp (oIxX K) (tVar 0) (tC (.int 4))) (tC (.int 1))) (gSub (tVar 0) (tC (.int 4)) rSetX))
  (tRet (tCall (sp__law_mixed K A) [] E0 (tCons (tOp (oIxX K) (tVar 0) (tC (.int 3))) (tCons (tOp (oIxX K) (tVar 0) (tC (.int 4))) (tCons (tVar 1) tNil))))))
  tNext)
  (tSeq (tIfS (tTest (tOp oGe (tOp (oIxX K) (tVar 0) (tC (.int 1))) (tCB (cLenX K) (tCons (tOp (oIxX K) (tVar 0) (tC (.int 0))) tNil))))
  (tRet (tC (.int 0)))
  tNext)
  (tSeq (tAsg (tOp (oIxX K) (tOp (oIxX K) (tVar 0) (tC (.int 0))) (tOp (oIxX K) (tVar 0) (tC (.int 1)))) (gName 2))
  (tSeq (tAsg (tOp (oAddX K) (tOp (oIxX K) (tVar 0) (tC (.int 1))) (tC (.int 1))) (gSub (tVar 0) (tC (.int 1)) rSetX))
  (tSeq (tIfS (tTest (tOp oLt (tVar 2) (tC (.int 0))))
  (tAsg (tOp oSub (tUn oNeg (tC (.int 1))) (tVar 2)) (gName 2))
  tNext)
  (tSeq (tIfS (tTest (tOp oGe (tVar 2) (tOp oPow (tC (.int 10)) (tC (.int 18)))))
  (tSeq (tAsg (tOp oDiv (tVar 2) (tVar 1)) (gSub (tVar 0) (tC (.int 2)) rSetX))
  (tRet (tOp oMod (tCB cInt (tCons (tVar 2) tNil)) (tVar 1))))
  tNext)
  (tSeq (tAsg (tVar 2) (gSub (tVar 0) (tC (.int 3)) rSetX))
  (tSeq (tAsg (tC (.int 7)) (gSub (tVar 0) (tC (.int 4)) rSetX))
  (tRet (tCall (sp__law_mixed K A) [] E0 (tCons (tVar 2) (tCons (tC (.int 7)) (tCons (tVar 1) tNil))))))))))))))
abbrev sp__law_draw (K : PySem.W.Frag) (A : Ad) : Sp := Conc K (F__law_draw A)
def a__law_draw (A : Ad) : ATS :=
  (aSeq (aIfS (aTest (aOp fGt (aOp fIx (aVar 0) (aC (.int 2))) (aC (.int 0))))
  (aSeq (aAsg (aOp fMod (aCB fInt (aCons (aOp fIx (aVar 0) (aC (.int 2))) aNil)) (aVar 1)) (aName 3))
  (aSeq (aAsg (aOp fDiv (aOp fIx (aVar 0) (aC (.int 2))) (aVar 1)) (aSub (aVar 0) (aC (.int 2))))
  (aRet (aVar 3))))
  aNext)
  (aSeq (aIfS (aTest (aOp fGt (aOp fIx (aVar 0) (aC (.int 4))) (aC (.int 0))))
  (aSeq (aAsg (aOp fSub (aOp fIx (aVar 0) (aC (.int 4))) (aC (.int 1))) (aSub (aVar 0) (aC (.int 4))))
  (aRet (aCB (aFn [false, false, false] (F__law_mixed A) X0) (aCons (aOp fIx (aVar 0) (aC (.int 3))) (aCons (aOp fIx (aVar 0) (aC (.int 4))) (aCons (aVar 1) aNil))))))
  aNext)
  (aSeq (aIfS (aTest (aOp fGe (aOp fIx (aVar 0) (aC (.int 1))) (aCB fLen (aCons (aOp fIx (aVar 0) (aC (.int 0))) aNil))))
  (aRet (aC (.int 0)))
  aNext)
  (aSeq (aAsg (aOp fIx (aOp fIx (aVar 0) (aC (.int 0))) (aOp fIx (aVar 0) (aC (.int 1)))) (aName 2))
  (aSeq (aAsg (aOp fAdd (aOp fIx (aVar 0) (aC (.int 1))) (aC (.int 1))) (aSub (aVar 0) (aC (.int 1))))
  (aSeq (aIfS (aTest (aOp fLt (aVar 2) (aC (.int 0))))
  (aAsg (aOp fSub (aUn fNeg (aC (.int 1))) (aVar 2)) (aName 2))
  aNext)
  (aSeq (aIfS (aTest (aOp fGe (aVar 2) (aOp fPow (aC (.int 10)) (aC (.int 18)))))
  (aSeq (aAsg (aOp fDiv (aVar 2) (aVar 1)) (aSub (aVar 0) (aC (.int 2))))
  (aRet (aOp fMod (aCB fInt (aCons (aVar 2) aNil)) (aVar 1))))
  aNext)
  (aSeq (aAsg (aVar 2) (aSub (aVar 0) (aC (.int 3))))
  (aSeq (aAsg (aC (.int 7)) (aSub (aVar 0) (aC (.int 4))))
  (aRet (aCB (aFn [false, false, false] (F__law_mixed A) X0) (aCons (aVar 2) (aCons (aC (.int 7)) (aCons (aVar 1) aNil))))))))))))))
theorem sim__law_draw {K : PySem.W.Frag} {A : Ad} (TX : Caught K A) {w0 : W} {E : XK} {X : XA} (hX : XOk K w0 E X) : SimS K w0 (t__law_draw K A) (a__law_draw A) :=
  (sim_seq (sim_ifS (sim_test (sim_op so_cmp (sim_op so_ix sim_var (sim_c fun w => .int _)) (sim_c fun w => .int _)))
  (sim_seq (sim_asg (sim_op so_mod (sim_cb sc_int (sim_cons (sim_op so_ix sim_var (sim_c fun w => .int _)) sim_nil)) sim_var) sim_name)
  (sim_seq (sim_asg (sim_op so_div (sim_op so_ix sim_var (sim_c fun w => .int _)) sim_var) (sim_sub sim_var (sim_c fun w => .int _)))
  (sim_ret sim_var)))
  sim_next)
  (sim_seq (sim_ifS (sim_test (sim_op so_cmp (sim_op so_ix sim_var (sim_c fun w => .int _)) (sim_c fun w => .int _)))
  (sim_seq (sim_asg (sim_op so_sub (sim_op so_ix sim_var (sim_c fun w => .int _)) (sim_c fun w => .int _)) (sim_sub sim_var (sim_c fun w => .int _)))
  (sim_ret (sim_call xok0 (sim_cons (sim_op so_ix sim_var (sim_c fun w => .int _)) (sim_cons (sim_op so_ix sim_var (sim_c fun w => .int _)) (sim_cons sim_var sim_nil))))))
  sim_next)
  (sim_seq (sim_ifS (sim_test (sim_op so_cmp (sim_op so_ix sim_var (sim_c fun w => .int _)) (sim_cb sc_len (sim_cons (sim_op so_ix sim_var (sim_c fun w => .int _)) sim_nil))))
  (sim_ret (sim_c fun w => .int _))
  sim_next)
  (sim_seq (sim_asg (sim_op so_ix (sim_op so_ix sim_var (sim_c fun w => .int _)) (sim_op so_ix sim_var (sim_c fun w => .int _))) sim_name)
  (sim_seq (sim_asg (sim_op so_add (sim_op so_ix sim_var (sim_c fun w => .int _)) (sim_c fun w => .int _)) (sim_sub sim_var (sim_c fun w => .int _)))
  (sim_seq (sim_ifS (sim_test (sim_op so_cmp sim_var (sim_c fun w => .int _)))
  (sim_asg (sim_op so_sub (sim_un su_neg (sim_c fun w => .int _)) sim_var) sim_name)
  sim_next)
  (sim_seq (sim_ifS (sim_test (sim_op so_cmp sim_var (sim_op so_pow (sim_c fun w => .int _) (sim_c fun w => .int _))))
  (sim_seq (sim_asg (sim_op so_div sim_var sim_var) (sim_sub sim_var (sim_c fun w => .int _)))
  (sim_ret (sim_op so_mod (sim_cb sc_int (sim_cons sim_var sim_nil)) sim_var)))
  sim_next)
  (sim_seq (sim_asg sim_var (sim_sub sim_var (sim_c fun w => .int _)))
  (sim_seq (sim_asg (sim_c fun w => .int _) (sim_sub sim_var (sim_c fun w => .int _)))
  (sim_ret (sim_call xok0 (sim_cons sim_var (sim_cons (sim_c fun w => .int _) (sim_cons sim_var sim_nil))))))))))))))
theorem ax__law_draw {A : Ad} {ags : List Ag} {R : Ag → List Res → Prop} {X : XA} (h : F__law_draw A ags R X) : a__law_draw A (aEnds (agS 0 ags).2.length R) (aStart 4 ags) := by
  obtain ⟨_, l, rfl, ⟨cs, a, b, c, d, rfl, ha, hc, hc2, hd⟩, h5, h6, k⟩ := h
  have e18 : (10 : Int) ^ 18 = 1000000000000000000 := by decide
  have hdiv : ∀ i : Int, CDivW i l := fun i => wide_div (b := 60) h5 (by omega) (by decide) (by decide)
  have pool : ∀ (a' b' c' d' : Int), 0 ≤ a' → 0 ≤ c' → c' < 10 ^ 18 → d' ≤ 7 → PoolD [.lst (cs.map .int), .int a', .int b', .int c', .int d'] := fun a' b' c' d' h1 h2 h3 h4 => ⟨cs, a', b', c', d', rfl, h1, h2, h3, h4⟩
  have km : ∀ (i : Int) (r : List D), PoolD r → R (.dat (.int (i % l))) [.lst r] := fun i r hr => k _ _ (Int.emod_nonneg _ (by omega)) (Int.emod_lt_of_pos _ h5) hr
  unfold a__law_draw
  dsimp only [aStart, agS, aEnds]
  walk_at "aw"
  refine q_dec (fun hb => ?_) (fun hb => ?_)
  · walk_at "aw"
    refine s_iI rfl rfl (hdiv _) ?_
    walk_at "aw"
    exact km _ _ (pool _ _ _ _ ha hc hc2 hd)
  walk_at "aw"
  refine q_dec (fun hb => ?_) (fun hb => ?_)
  · walk_at "aw"
    refine ⟨c, d - 1, l, rfl, hc, hc2, by omega, by omega, h5, fun r h1 h2 => ?_⟩
    exact k _ _ h1 h2 (pool _ _ _ _ ha hc hc2 (by omega))
  walk_at "aw"
  refine q_dec (fun hb => ?_) (fun hlt => ?_)
  · walk_at "aw"
    exact k 0 _ (by omega) h5 (pool _ _ _ _ ha hc hc2 hd)
  walk_at "aw"
  rw [List.length_map] at hlt
  have hlt' : a.toNat < cs.length := by omega
  refine s_ixQ (d := .int cs[a.toNat]) rfl rfl (at_of ha (by rw [List.getElem?_map, List.getElem?_eq_getElem hlt']; rfl)) ?_
  generalize cs[a.toNat] = z
  walk_at "aw"
  refine q_dec (fun hz => ?_) (fun hz => ?_)
  all_goals
    walk_at "aw"
    refine q_dec (fun h18 => ?_) (fun h18 => ?_)
    · walk_at "aw"
      refine s_iI rfl rfl (hdiv _) ?_
      walk_at "aw"
      exact km _ _ (pool _ _ _ _ (by omega) hc hc2 hd)
    · have h18' : ¬ (1000000000000000000 : Int) ≤ _ := h18
      walk_at "aw"
      refine ⟨_, 7, l, rfl, by omega, by omega, by omega, by omega, h5, fun r h1 h2 => ?_⟩
      exact k _ _ h1 h2 (pool _ _ _ _ (by omega) (by omega) (by omega) (by omega))
theorem pure__law_draw {K : PySem.W.Frag} {A : Ad} (TX : Caught K A) {vs : List V} {H : Hp} {Q : VK} {E : XK} (h : sp__law_draw K A vs H Q E) : t__law_draw K A { nx := fun _ H' => Q .non H', rt := Q } (L2.start ["_law_pool_here", "_law_limit", "_law_cell", "_law_digit"] vs) H :=
  fn_ok (a := fun X => a__law_draw A) (fun w0 X hX => sim__law_draw TX hX) (fun ags R X hF => ax__law_draw hF) h

/-! ### texts by their signs -/
abbrev St8 (l : List Nat) : Str := ⟨l.toArray⟩
theorem st8_app (a b : List Nat) : St8 a ++ St8 b = St8 (a ++ b) := by
  show (⟨a.toArray ++ b.toArray⟩ : Str) = ⟨(a ++ b).toArray⟩
  rw [List.append_toArray]
theorem st8_len (a : List Nat) : (St8 a).length = a.length := rfl
theorem st8_list (a : List Nat) : (St8 a).cps.toList = a := rfl
theorem st8_of (z : Str) : z = St8 z.cps.toList := rfl
def lets : List Nat := [97, 98, 99, 100, 101, 102, 103, 104, 105, 106, 107, 108, 109, 110, 111, 112, 113, 114, 115, 116, 117, 118, 119, 120, 121, 122]
def digs : List Nat := [48, 49, 50, 51, 52, 53, 54, 55, 56, 57]
theorem lets_is : ("abcdefghijklmnopqrstuvwxyz" : Str) = St8 lets := by decide +kernel
theorem digs_is : ("0123456789" : Str) = St8 digs := by decide +kernel
theorem ld_is : ("abcdefghijklmnopqrstuvwxyz0123456789" : Str) = St8 (lets ++ digs) := by decide +kernel
theorem ld_app : ("abcdefghijklmnopqrstuvwxyz" : Str) ++ ("0123456789" : Str) = St8 (lets ++ digs) := by decide +kernel
structure NameL (l : List Nat) : Prop where
  fst : ∃ c r, l = c :: r ∧ c ∈ lets
  all : ∀ c ∈ l, c ∈ lets ++ digs
  len : l.length ≤ 12
/-- a name -/
abbrev NameS (z : Str) : Prop := NameL z.cps.toList
noncomputable instance (z : Str) : Decidable (NameS z) := Classical.propDecidable _
theorem slen (z : Str) : z.cps.toList.length = z.length := Array.length_toList
theorem NameS.le {z : Str} (h : NameS z) : z.length ≤ 12 := by rw [← slen]; exact NameL.len h
theorem NameS.ge {z : Str} (h : NameS z) : 1 ≤ z.length := by
  obtain ⟨c, r, e, _⟩ := NameL.fst h
  rw [← slen, e]; exact Nat.le_add_left _ _
theorem NameS.ok {z : Str} (h : NameS z) : PyData.strOk z = true := by
  unfold PyData.strOk
  rw [← Array.all_toList, List.all_eq_true]
  intro c hc
  have hm := NameL.all h c hc
  have : ∀ c ∈ lets ++ digs, decide (c < 0x110000) = true := by decide
  exact this c hm
theorem app_len {a b : Str} : (a ++ b).length = a.length + b.length := by
  show (a.cps ++ b.cps).size = _
  rw [Array.size_append]; rfl
theorem app_ok {a b : Str} (h1 : PyData.strOk a = true) (h2 : PyData.strOk b = true) : PyData.strOk (a ++ b) = true := by
  show (a.cps ++ b.cps).all _ = true
  rw [Array.all_append]
  unfold PyData.strOk at h1 h2
  rw [h1, h2]; rfl
theorem cut_len {z : Str} {lo hi : Option Int} : (cutS z lo hi).length ≤ z.length := by
  show (List.toArray _).size ≤ z.cps.size
  rw [List.size_toArray, List.length_take, List.length_drop, Array.length_toList]
  omega
theorem ok_sub {z : Str} {l : List Nat} (h : PyData.strOk z = true) (s : ∀ c ∈ l, c ∈ z.cps.toList) : PyData.strOk (St8 l) = true := by
  unfold PyData.strOk at h ⊢
  rw [← Array.all_toList, List.all_eq_true] at h ⊢
  exact fun c hc => h c (s c hc)
theorem cut_ok {z : Str} {lo hi : Option Int} (h : PyData.strOk z = true) : PyData.strOk (cutS z lo hi) = true :=
  ok_sub h fun c hc => List.mem_of_mem_drop (List.mem_of_mem_take hc)
theorem sz100 {n : Nat} (h : n ≤ 100000) : n ≤ sizeLine := Nat.le_trans h (by decide)
theorem rng_get {lo : Int} {n i : Nat} {d : D} (e : (rngD lo n)[i]? = some d) : i < n ∧ d = .int (lo + i) := by
  unfold rngD at e
  rw [List.getElem?_map] at e
  obtain ⟨j, e1, rfl⟩ := Option.map_eq_some_iff.mp e
  obtain ⟨h1, h2⟩ := List.getElem?_eq_some_iff.mp e1
  rw [List.length_range] at h1
  rw [List.getElem_range] at h2
  subst h2
  exact ⟨h1, rfl⟩
theorem rng_len {lo : Int} {n : Nat} : (rngD lo n).length = n := by unfold rngD; rw [List.length_map, List.length_range]
def sgnS : Str := (" !\"#$&'()*+,-./0123456789:;<=>?@ABCDEFGHIJKLMNOPQRSTUVWXYZ[\\]^_`" : Str) ++ ("abcdefghijklmnopqrstuvwxyz{|}~" : Str)
theorem sgn_len : sgnS.length = 94 := by decide +kernel
theorem sgn_at {r : Int} (h0 : 0 ≤ r) (h1 : r < 94) : ∃ c, atI sgnS.cps.toList r = some c ∧ c < 128 := by
  have hl : r.toNat < sgnS.cps.toList.length := by
    rw [slen, sgn_len]; omega
  refine ⟨_, at_of h0 (List.getElem?_eq_getElem hl), ?_⟩
  have : ∀ c ∈ sgnS.cps.toList, c < 128 := by decide +kernel
  exact this _ (List.getElem_mem hl)
theorem one_ok {c : Nat} (h : c < 128) : PyData.strOk ⟨#[c]⟩ = true := by
  show #[c].all _ = true
  simp
  omega
theorem mul_ok14 {z : Str} {n : Int} (h0 : 1 ≤ n) (h1 : n ≤ 1000) (hz : z.length ≤ 1000) : MulOk z n := by
  have hp : z.length * n.toNat ≤ 1000000 := Nat.le_trans (Nat.mul_le_mul hz (show n.toNat ≤ 1000 by omega)) (by decide)
  refine ⟨?_, fun _ _ => ?_, fun _ _ => ?_⟩
  · rw [Bool.or_eq_false_iff]
    exact ⟨decide_eq_false (by omega), decide_eq_false (by omega)⟩
  · have h2 : (1000000 : Int) ≤ (2 ^ 63 - 1) / n := by
      have := Int.ediv_le_ediv (a := n * 1000000) (b := 2 ^ 63 - 1) (c := n) (by omega) (by omega)
      rw [Int.mul_ediv_cancel_left _ (by omega)] at this
      exact this
    omega
  · exact PyProof.Rows.short24 (by omega)
/-! ### a draw from a list of words; letters, names, numbers -/
def F__law_letters (_ : Ad) : AF := fun ags R _ => ags = [] ∧ R (.dat (.str (St8 lets))) []
def t__law_letters (K : PySem.W.Frag) (A : Ad) : TS :=
  (tRet (tC (.str "abcdefghijklmnopqrstuvwxyz")))
abbrev sp__law_letters (K : PySem.W.Frag) (A : Ad) : Sp := Conc K (F__law_letters A)
def a__law_letters (A : Ad) : ATS :=
  (aRet (aC (.str "abcdefghijklmnopqrstuvwxyz")))
theorem sim__law_letters {K : PySem.W.Frag} {A : Ad} (TX : Caught K A) {w0 : W} {E : XK} {X : XA} (hX : XOk K w0 E X) : SimS K w0 (t__law_letters K A) (a__law_letters A) :=
  (sim_ret (sim_c fun w => .str _))
theorem ax__law_letters {A : Ad} {ags : List Ag} {R : Ag → List Res → Prop} {X : XA} (h : F__law_letters A ags R X) : a__law_letters A (aEnds (agS 0 ags).2.length R) (aStart 0 ags) := by
  obtain ⟨rfl, k⟩ := h
  rw [← lets_is] at k
  exact k
theorem pure__law_letters {K : PySem.W.Frag} {A : Ad} (TX : Caught K A) {vs : List V} {H : Hp} {Q : VK} {E : XK} (h : sp__law_letters K A vs H Q E) : t__law_letters K A { nx := fun _ H' => Q .non H', rt := Q } (L2.start [] vs) H :=
  fn_ok (a := fun X => a__law_letters A) (fun w0 X hX => sim__law_letters TX hX) (fun ags R X hF => ax__law_letters hF) h
def F__law_name (_ : Ad) : AF := fun ags R _ => ∃ p, ags = [.res (.lst p)] ∧ PoolD p ∧ ∀ (z : Str) (p' : List D), NameS z → PoolD p' → R (.dat (.str z)) [.lst p']
def t__law_name (K : PySem.W.Frag) (A : Ad) : TS :=
  (tSeq (tAsg (tOp (oAddX K) (tCall (sp__law_letters K A) [] E0 tNil) (tC (.str "0123456789"))) (gName 1))
  (tSeq (tAsg (tOp (oIxX K) (tVar 1) (tCall (sp__law_draw K A) [] E0 (tCons (tVar 0) (tCons (tC (.int 26)) tNil)))) (gName 2))
  (tSeq (tAsg (tCall (sp__law_draw K A) [] E0 (tCons (tVar 0) (tCons (tC (.int 3)) tNil))) (gName 3))
  (tSeq (tIfS (tTest (tOp (oEq K) (tCall (sp__law_draw K A) [] E0 (tCons (tVar 0) (tCons (tC (.int 4)) tNil))) (tC (.int 1))))
  (tAsg (tCall (sp__law_draw K A) [] E0 (tCons (tVar 0) (tCons (tC (.int 12)) tNil))) (gName 3))
  tNext)
  (tSeq (tFor (iRng1 (tCons (tVar 3) tNil)) (gName 4)
  (tAsg (tOp (oAddX K) (tVar 2) (tOp (oIxX K) (tVar 1) (tCall (sp__law_draw K A) [] E0 (tCons (tVar 0) (tCons (tC (.int 36)) tNil))))) (gName 2)))
  (tRet (tVar 2)))))))
abbrev sp__law_name (K : PySem.W.Frag) (A : Ad) : Sp := Conc K (F__law_name A)
def a__law_name (A : Ad) : ATS :=
  (aSeq (aAsg (aOp fAdd (aCB (aFn [] (F__law_letters A) X0) aNil) (aC (.str "0123456789"))) (aName 1))
  (aSeq (aAsg (aOp fIx (aVar 1) (aCB (aFn [true, false] (F__law_draw A) X0) (aCons (aVar 0) (aCons (aC (.int 26)) aNil)))) (aName 2))
  (aSeq (aAsg (aCB (aFn [true, false] (F__law_draw A) X0) (aCons (aVar 0) (aCons (aC (.int 3)) aNil))) (aName 3))
  (aSeq (aIfS (aTest (aOp (fEq false) (aCB (aFn [true, false] (F__law_draw A) X0) (aCons (aVar 0) (aCons (aC (.int 4)) aNil))) (aC (.int 1))))
  (aAsg (aCB (aFn [true, false] (F__law_draw A) X0) (aCons (aVar 0) (aCons (aC (.int 12)) aNil))) (aName 3))
  aNext)
  (aSeq (aFor (iRng1A (aCons (aVar 3) aNil)) (aName 4)
  (aAsg (aOp fAdd (aVar 2) (aOp fIx (aVar 1) (aCB (aFn [true, false] (F__law_draw A) X0) (aCons (aVar 0) (aCons (aC (.int 36)) aNil))))) (aName 2)))
  (aRet (aVar 2)))))))
theorem sim__law_name {K : PySem.W.Frag} {A : Ad} (TX : Caught K A) {w0 : W} {E : XK} {X : XA} (hX : XOk K w0 E X) : SimS K w0 (t__law_name K A) (a__law_name A) :=
  (sim_seq (sim_asg (sim_op so_add (sim_call xok0 sim_nil) (sim_c fun w => .str _)) sim_name)
  (sim_seq (sim_asg (sim_op so_ix sim_var (sim_call xok0 (sim_cons sim_var (sim_cons (sim_c fun w => .int _) sim_nil)))) sim_name)
  (sim_seq (sim_asg (sim_call xok0 (sim_cons sim_var (sim_cons (sim_c fun w => .int _) sim_nil))) sim_name)
  (sim_seq (sim_ifS (sim_test (sim_op so_eq (sim_call xok0 (sim_cons sim_var (sim_cons (sim_c fun w => .int _) sim_nil))) (sim_c fun w => .int _)))
  (sim_asg (sim_call xok0 (sim_cons sim_var (sim_cons (sim_c fun w => .int _) sim_nil))) sim_name)
  sim_next)
  (sim_seq (sim_for (si_rng1 (sim_cons sim_var sim_nil)) sim_name
  (sim_asg (sim_op so_add sim_var (sim_op so_ix sim_var (sim_call xok0 (sim_cons sim_var (sim_cons (sim_c fun w => .int _) sim_nil))))) sim_name))
  (sim_ret sim_var))))))
theorem ax__law_name {A : Ad} {ags : List Ag} {R : Ag → List Res → Prop} {X : XA} (h : F__law_name A ags R X) : a__law_name A (aEnds (agS 0 ags).2.length R) (aStart 5 ags) := by
  obtain ⟨p, rfl, hp, k⟩ := h
  unfold a__law_name
  dsimp only [aStart, agS, aEnds]
  walk_at "aw"
  refine ⟨rfl, ?_⟩
  walk_at "aw"
  refine s_addS rfl rfl (by decide +kernel) ?_
  rw [digs_is, st8_app]
  walk_at "aw"
  refine ⟨p, 26, rfl, hp, by decide, by decide, fun r p1 h0 h1 hp1 => ?_⟩
  walk_at "aw"
  have hl : r.toNat < lets.length := by show r.toNat < 26; omega
  have hl2 : r.toNat < (lets ++ digs).length := by show r.toNat < 36; omega
  refine s_ixS (cc := lets[r.toNat]) rfl rfl (by decide) (by rw [st8_list]; exact at_of h0 (by rw [List.getElem?_append_left hl]; exact List.getElem?_eq_getElem hl)) ?_
  have hc0 : lets[r.toNat] ∈ lets := List.getElem_mem hl
  generalize lets[r.toNat] = c0 at hc0
  walk_at "aw"
  refine ⟨p1, 3, rfl, hp1, by decide, by decide, fun m p2 h2 h3 hp2 => ?_⟩
  walk_at "aw"
  refine ⟨p2, 4, rfl, hp2, by decide, by decide, fun r2 p3 h4 h5 hp3 => ?_⟩
  walk_at "aw"
  -- behind the choice of the length
  have fin : ∀ (m : Int) (p : List D), 0 ≤ m → m < 12 → PoolD p → aSeq (aFor (iRng1A (aCons (aVar 3) aNil)) (aName 4)
    (aAsg (aOp fAdd (aVar 2) (aOp fIx (aVar 1) (aCB (aFn [true, false] (F__law_draw A) X0) (aCons (aVar 0) (aCons (aC (.int 36)) aNil))))) (aName 2))) (aRet (aVar 2))
    ⟨fun st => R (.dat .non) (st.ρ.take 1), fun s ρ => match s with
      | .dat d => R (.dat d) (ρ.take 1)
      | .res k => 1 ≤ k ∧ ∃ r, ρ[k]? = some r ∧ R (.res r) (ρ.take 1), fun _ => False, fun _ => False⟩ ⟨[some (.res 0), some (.dat (.str (St8 (lets ++ digs)))), some (.dat (.str ⟨#[c0]⟩)), some (.dat (.int m)), none], [.lst p]⟩ := by
    intro m p m0 m1 hp
    walk_at "aw"
    refine s_kRng rfl (by omega) (by omega) ⟨trivial, loop_at (fun i st => ∃ (l : List Nat) (q : List D) (x : Option Sl), st = ⟨[some (.res 0), some (.dat (.str (St8 (lets ++ digs)))), some (.dat (.str (St8 l))), some (.dat (.int m)), x], [.lst q]⟩ ∧ PoolD q ∧ l.length = i + 1 ∧ (∃ r, l = c0 :: r) ∧ ∀ c ∈ l, c ∈ lets ++ digs) ?_ ?_ ?_⟩
    · exact ⟨[c0], p, none, rfl, hp, rfl, ⟨[], rfl⟩, fun c hc => by rw [List.mem_singleton] at hc; subst hc; exact List.mem_append_left _ hc0⟩
    · rintro i d st N hd hN ⟨l, q, x, rfl, hq, hl, ⟨r, hr⟩, hall⟩
      obtain ⟨hi, rfl⟩ := rng_get hd
      walk_at "aw"
      refine ⟨q, 36, rfl, hq, by decide, by decide, fun v q2 v0 v1 hq2 => ?_⟩
      walk_at "aw"
      have hv : v.toNat < (lets ++ digs).length := by show v.toNat < 36; omega
      refine s_ixS (cc := (lets ++ digs)[v.toNat]) rfl rfl (by decide) (by rw [st8_list]; exact at_of v0 (List.getElem?_eq_getElem hv)) ?_
      refine s_addS rfl rfl (by rw [st8_len, hl]; exact sz100 (show i + 1 + 1 ≤ 100000 by omega)) ?_
      walk_at "aw"
      refine ⟨trivial, hN _ ⟨l ++ [(lets ++ digs)[v.toNat]], q2, _, by rw [← st8_app l]; try rfl, hq2, by rw [List.length_append, hl]; rfl, ⟨r ++ [_], by rw [hr]; rfl⟩, fun c hc => ?_⟩⟩
      rcases List.mem_append.mp hc with hc | hc
      · exact hall c hc
      · rw [List.mem_singleton] at hc; subst hc; exact List.getElem_mem hv
    · rintro st ⟨l, q, x, rfl, hq, hl, ⟨r, hr⟩, hall⟩
      rw [rng_len] at hl
      walk_at "aw"
      exact k _ _ ⟨⟨c0, r, hr, hc0⟩, hall, by rw [st8_list, hl]; omega⟩ hq
  refine q_dec (fun h => ?_) (fun h => ?_)
  · walk_at "aw"
    refine ⟨p3, 12, rfl, hp3, by decide, by decide, fun m2 p4 h6 h7 hp4 => ?_⟩
    walk_at "a1"
    walk_at "a1"
    exact fin m2 p4 h6 h7 hp4
  · walk_at "a1"
    exact fin m p3 h2 (by omega) hp3
theorem pure__law_name {K : PySem.W.Frag} {A : Ad} (TX : Caught K A) {vs : List V} {H : Hp} {Q : VK} {E : XK} (h : sp__law_name K A vs H Q E) : t__law_name K A { nx := fun _ H' => Q .non H', rt := Q } (L2.start ["_law_pool_here", "_law_signs", "_law_name_here", "_law_more", "_law_k"] vs) H :=
  fn_ok (a := fun X => a__law_name A) (fun w0 X hX => sim__law_name TX hX) (fun ags R X hF => ax__law_name hF) h

/-! ### numbers and kinds, drawn -/
def F__law_number (_ : Ad) : AF := fun ags R _ => ∃ p, ags = [.res (.lst p)] ∧ PoolD p ∧ ∀ (n : Int) (p' : List D), 0 ≤ n → n < 1000 → PoolD p' → R (.dat (.int n)) [.lst p']
def t__law_number (K : PySem.W.Frag) (A : Ad) : TS :=
  (tSeq (tIfS (tTest (tOp (oEq K) (tCall (sp__law_draw K A) [] E0 (tCons (tVar 0) (tCons (tC (.int 3)) tNil))) (tC (.int 2))))
  (tRet (tCall (sp__law_draw K A) [] E0 (tCons (tVar 0) (tCons (tC (.int 1000)) tNil))))
  tNext)
  (tRet (tCall (sp__law_draw K A) [] E0 (tCons (tVar 0) (tCons (tC (.int 4)) tNil)))))
abbrev sp__law_number (K : PySem.W.Frag) (A : Ad) : Sp := Conc K (F__law_number A)
def a__law_number (A : Ad) : ATS :=
  (aSeq (aIfS (aTest (aOp (fEq false) (aCB (aFn [true, false] (F__law_draw A) X0) (aCons (aVar 0) (aCons (aC (.int 3)) aNil))) (aC (.int 2))))
  (aRet (aCB (aFn [true, false] (F__law_draw A) X0) (aCons (aVar 0) (aCons (aC (.int 1000)) aNil))))
  aNext)
  (aRet (aCB (aFn [true, false] (F__law_draw A) X0) (aCons (aVar 0) (aCons (aC (.int 4)) aNil)))))
theorem sim__law_number {K : PySem.W.Frag} {A : Ad} (TX : Caught K A) {w0 : W} {E : XK} {X : XA} (hX : XOk K w0 E X) : SimS K w0 (t__law_number K A) (a__law_number A) :=
  (sim_seq (sim_ifS (sim_test (sim_op so_eq (sim_call xok0 (sim_cons sim_var (sim_cons (sim_c fun w => .int _) sim_nil))) (sim_c fun w => .int _)))
  (sim_ret (sim_call xok0 (sim_cons sim_var (sim_cons (sim_c fun w => .int _) sim_nil))))
  sim_next)
  (sim_ret (sim_call xok0 (sim_cons sim_var (sim_cons (sim_c fun w => .int _) sim_nil)))))
theorem ax__law_number {A : Ad} {ags : List Ag} {R : Ag → List Res → Prop} {X : XA} (h : F__law_number A ags R X) : a__law_number A (aEnds (agS 0 ags).2.length R) (aStart 1 ags) := by
  obtain ⟨p, rfl, hp, k⟩ := h
  unfold a__law_number
  dsimp only [aStart, agS, aEnds]
  walk_at "aw"
  refine ⟨p, 3, rfl, hp, by decide, by decide, fun r p1 h0 h1 hp1 => ?_⟩
  walk_at "aw"
  refine q_dec (fun h => ?_) (fun h => ?_)
  · walk_at "aw"
    refine ⟨p1, 1000, rfl, hp1, by decide, by decide, fun r p2 h0 h1 hp2 => ?_⟩
    exact k _ _ h0 h1 hp2
  · walk_at "aw"
    refine ⟨p1, 4, rfl, hp1, by decide, by decide, fun r p2 h0 h1 hp2 => ?_⟩
    exact k _ _ h0 (by omega) hp2
theorem pure__law_number {K : PySem.W.Frag} {A : Ad} (TX : Caught K A) {vs : List V} {H : Hp} {Q : VK} {E : XK} (h : sp__law_number K A vs H Q E) : t__law_number K A { nx := fun _ H' => Q .non H', rt := Q } (L2.start ["_law_pool_here"] vs) H :=
  fn_ok (a := fun X => a__law_number A) (fun w0 X hX => sim__law_number TX hX) (fun ags R X hF => ax__law_number hF) h
/-- a step kind -/
inductive KindD : D → Prop
  | plain : KindD (.tup [.str "plain"])
  | num {w : Str} {n : Int} (hw : w = "answer" ∨ w = "heal") (h0 : 0 ≤ n) (h1 : n < 1000) : KindD (.tup [.str w, .int n])
  | nam {w z : Str} (hw : w = "jump" ∨ w = "swap") (hz : NameS z) : KindD (.tup [.str w, .str z])
def F__law_kind (_ : Ad) : AF := fun ags R _ => ∃ p, ags = [.res (.lst p)] ∧ PoolD p ∧ ∀ (d : D) (p' : List D), KindD d → PoolD p' → R (.dat d) [.lst p']
def t__law_kind (K : PySem.W.Frag) (A : Ad) : TS :=
  (tSeq (tAsg (tCall (sp__law_draw K A) [] E0 (tCons (tVar 0) (tCons (tC (.int 6)) tNil))) (gName 1))
  (tSeq (tIfS (tTest (tOp (oEq K) (tVar 1) (tC (.int 1))))
  (tRet (tTup (tCons (tC (.str "answer")) (tCons (tCall (sp__law_number K A) [] E0 (tCons (tVar 0) tNil)) tNil))))
  tNext)
  (tSeq (tIfS (tTest (tOp (oEq K) (tVar 1) (tC (.int 2))))
  (tRet (tTup (tCons (tC (.str "jump")) (tCons (tCall (sp__law_name K A) [] E0 (tCons (tVar 0) tNil)) tNil))))
  tNext)
  (tSeq (tIfS (tOr (tTest (tOp (oEq K) (tVar 1) (tC (.int 3)))) (tTest (tOp (oEq K) (tVar 1) (tC (.int 5)))))
  (tRet (tTup (tCons (tC (.str "heal")) (tCons (tCall (sp__law_number K A) [] E0 (tCons (tVar 0) tNil)) tNil))))
  tNext)
  (tSeq (tIfS (tTest (tOp (oEq K) (tVar 1) (tC (.int 4))))
  (tRet (tTup (tCons (tC (.str "swap")) (tCons (tCall (sp__law_name K A) [] E0 (tCons (tVar 0) tNil)) tNil))))
  tNext)
  (tRet (tTup (tCons (tC (.str "plain")) tNil))))))))
abbrev sp__law_kind (K : PySem.W.Frag) (A : Ad) : Sp := Conc K (F__law_kind A)
def a__law_kind (A : Ad) : ATS :=
  (aSeq (aAsg (aCB (aFn [true, false] (F__law_draw A) X0) (aCons (aVar 0) (aCons (aC (.int 6)) aNil))) (aName 1))
  (aSeq (aIfS (aTest (aOp (fEq false) (aVar 1) (aC (.int 1))))
  (aRet (aTup (aCons (aC (.str "answer")) (aCons (aCB (aFn [true] (F__law_number A) X0) (aCons (aVar 0) aNil)) aNil))))
  aNext)
  (aSeq (aIfS (aTest (aOp (fEq false) (aVar 1) (aC (.int 2))))
  (aRet (aTup (aCons (aC (.str "jump")) (aCons (aCB (aFn [true] (F__law_name A) X0) (aCons (aVar 0) aNil)) aNil))))
  aNext)
  (aSeq (aIfS (aOr (aTest (aOp (fEq false) (aVar 1) (aC (.int 3)))) (aTest (aOp (fEq false) (aVar 1) (aC (.int 5)))))
  (aRet (aTup (aCons (aC (.str "heal")) (aCons (aCB (aFn [true] (F__law_number A) X0) (aCons (aVar 0) aNil)) aNil))))
  aNext)
  (aSeq (aIfS (aTest (aOp (fEq false) (aVar 1) (aC (.int 4))))
  (aRet (aTup (aCons (aC (.str "swap")) (aCons (aCB (aFn [true] (F__law_name A) X0) (aCons (aVar 0) aNil)) aNil))))
  aNext)
  (aRet (aTup (aCons (aC (.str "plain")) aNil))))))))
theorem sim__law_kind {K : PySem.W.Frag} {A : Ad} (TX : Caught K A) {w0 : W} {E : XK} {X : XA} (hX : XOk K w0 E X) : SimS K w0 (t__law_kind K A) (a__law_kind A) :=
  (sim_seq (sim_asg (sim_call xok0 (sim_cons sim_var (sim_cons (sim_c fun w => .int _) sim_nil))) sim_name)
  (sim_seq (sim_ifS (sim_test (sim_op so_eq sim_var (sim_c fun w => .int _)))
  (sim_ret (sim_tup (sim_cons (sim_c fun w => .str _) (sim_cons (sim_call xok0 (sim_cons sim_var sim_nil)) sim_nil))))
  sim_next)
  (sim_seq (sim_ifS (sim_test (sim_op so_eq sim_var (sim_c fun w => .int _)))
  (sim_ret (sim_tup (sim_cons (sim_c fun w => .str _) (sim_cons (sim_call xok0 (sim_cons sim_var sim_nil)) sim_nil))))
  sim_next)
  (sim_seq (sim_ifS (sim_or (sim_test (sim_op so_eq sim_var (sim_c fun w => .int _))) (sim_test (sim_op so_eq sim_var (sim_c fun w => .int _))))
  (sim_ret (sim_tup (sim_cons (sim_c fun w => .str _) (sim_cons (sim_call xok0 (sim_cons sim_var sim_nil)) sim_nil))))
  sim_next)
  (sim_seq (sim_ifS (sim_test (sim_op so_eq sim_var (sim_c fun w => .int _)))
  (sim_ret (sim_tup (sim_cons (sim_c fun w => .str _) (sim_cons (sim_call xok0 (sim_cons sim_var sim_nil)) sim_nil))))
  sim_next)
  (sim_ret (sim_tup (sim_cons (sim_c fun w => .str _) sim_nil))))))))
theorem ax__law_kind {A : Ad} {ags : List Ag} {R : Ag → List Res → Prop} {X : XA} (h : F__law_kind A ags R X) : a__law_kind A (aEnds (agS 0 ags).2.length R) (aStart 2 ags) := by
  obtain ⟨p, rfl, hp, k⟩ := h
  unfold a__law_kind
  dsimp only [aStart, agS, aEnds]
  walk_at "aw"
  refine ⟨p, 6, rfl, hp, by decide, by decide, fun r p1 h0 h1 hp1 => ?_⟩
  walk_at "aw"
  refine q_dec (fun h => ?_) (fun h => ?_)
  · walk_at "aw"
    refine ⟨p1, rfl, hp1, fun n p2 h2 h3 hp2 => ?_⟩
    walk_at "aw"
    exact k _ _ (.num (.inl rfl) h2 h3) hp2
  walk_at "aw"
  refine q_dec (fun h => ?_) (fun h => ?_)
  · walk_at "aw"
    refine ⟨p1, rfl, hp1, fun z p2 hz hp2 => ?_⟩
    walk_at "aw"
    exact k _ _ (.nam (.inl rfl) hz) hp2
  walk_at "aw"
  refine q_dec (fun h => ?_) (fun h => ?_)
  · walk_at "aw"
    refine q_T ?_
    walk_at "aw"
    refine ⟨p1, rfl, hp1, fun n p2 h2 h3 hp2 => ?_⟩
    walk_at "aw"
    exact k _ _ (.num (.inr rfl) h2 h3) hp2
  walk_at "aw"
  refine q_dec (fun h => ?_) (fun h => ?_)
  · walk_at "aw"
    refine ⟨p1, rfl, hp1, fun n p2 h2 h3 hp2 => ?_⟩
    walk_at "aw"
    exact k _ _ (.num (.inr rfl) h2 h3) hp2
  walk_at "aw"
  refine q_dec (fun h => ?_) (fun h => ?_)
  · walk_at "aw"
    refine ⟨p1, rfl, hp1, fun z p2 hz hp2 => ?_⟩
    walk_at "aw"
    exact k _ _ (.nam (.inr rfl) hz) hp2
  walk_at "aw"
  exact k _ _ .plain hp1
theorem pure__law_kind {K : PySem.W.Frag} {A : Ad} (TX : Caught K A) {vs : List V} {H : Hp} {Q : VK} {E : XK} (h : sp__law_kind K A vs H Q E) : t__law_kind K A { nx := fun _ H' => Q .non H', rt := Q } (L2.start ["_law_pool_here", "_law_choice"] vs) H :=
  fn_ok (a := fun X => a__law_kind A) (fun w0 X hX => sim__law_kind TX hX) (fun ags R X hF => ax__law_kind hF) h
/-! ### same: a thing is what it is -/
/-- data of None, truths, numbers, texts, tuples and lists, n deep at most -/
def Flat : Nat → D → Prop
  | 0, _ => False
  | n + 1, d => d = .non ∨ (∃ b, d = .bl b) ∨ (∃ i, d = .int i) ∨ (∃ s, d = .str s) ∨ (∃ l, d = .tup l ∧ l.length < 100000 ∧ ∀ x ∈ l, Flat n x) ∨ ∃ l, d = .lst l ∧ l.length < 100000 ∧ ∀ x ∈ l, Flat n x
theorem Flat.up : ∀ {n m : Nat} {d : D}, Flat n d → n ≤ m → Flat m d
  | 0, _, _, h, _ => h.elim
  | n + 1, 0, _, _, e => by omega
  | n + 1, m + 1, d, h, e => by
    rcases h with h | h | h | h | ⟨l, h1, h2, h3⟩ | ⟨l, h1, h2, h3⟩
    · exact .inl h
    · exact .inr (.inl h)
    · exact .inr (.inr (.inl h))
    · exact .inr (.inr (.inr (.inl h)))
    · exact .inr (.inr (.inr (.inr (.inl ⟨l, h1, h2, fun x hx => (h3 x hx).up (by omega)⟩))))
    · exact .inr (.inr (.inr (.inr (.inr ⟨l, h1, h2, fun x hx => (h3 x hx).up (by omega)⟩))))
/-- an argument that stands for the data d, as it is or as a list that may change -/
def AgIs (a : Ag) (d : D) : Prop := a = .dat d ∨ ∃ l, a = .res (.lst l) ∧ d = .lst l
def ioOf : List Ag → List Res
  | [] => []
  | .dat _ :: r => ioOf r
  | .res x :: r => x :: ioOf r
def R__law_same (_ : Ad) (n : Nat) : AF := fun ags R _ => ∃ a b d, ags = [a, b] ∧ AgIs a d ∧ AgIs b d ∧ Flat n d ∧ R (.dat (.bl true)) (ioOf ags)
abbrev F__law_same (A : Ad) : AF := R__law_same A 9
def t__law_same (K : PySem.W.Frag) (A : Ad) (rec : Sp) : TS :=
  (tSeq (tIfS (tTest (tOp oIsN (tVar 1) (tC .non)))
  (tRet (tOp oIsN (tVar 0) (tC .non)))
  tNext)
  (tSeq (tIfS (tB (tCB (cIsiX K) (tCons (tVar 1) (tCons (tC (.ty "bool")) tNil))))
  (tRet (tAndV (tCB (cIsiX K) (tCons (tVar 0) (tCons (tC (.ty "bool")) tNil))) (tOp (oEq K) (tVar 0) (tVar 1))))
  tNext)
  (tSeq (tIfS (tB (tCB (cIsiX K) (tCons (tVar 1) (tCons (tC (.ty "int")) tNil))))
  (tRet (tAndV (tCB (cIsiX K) (tCons (tVar 0) (tCons (tC (.ty "int")) tNil))) (tAndV (tNotV (tCB (cIsiX K) (tCons (tVar 0) (tCons (tC (.ty "bool")) tNil)))) (tOp (oEq K) (tVar 0) (tVar 1)))))
  tNext)
  (tSeq (tIfS (tB (tCB (cIsiX K) (tCons (tVar 1) (tCons (tC (.ty "str")) tNil))))
  (tRet (tAndV (tCB (cIsiX K) (tCons (tVar 0) (tCons (tC (.ty "str")) tNil))) (tOp (oEq K) (tVar 0) (tVar 1))))
  tNext)
  (tSeq (tIfS (tAnd (tB (tCB (cIsiX K) (tCons (tVar 1) (tCons (tC (.ty "tuple")) tNil)))) (tNot (tB (tCB (cIsiX K) (tCons (tVar 0) (tCons (tC (.ty "tuple")) tNil))))))
  (tRet (tC (.bl false)))
  tNext)
  (tSeq (tIfS (tAnd (tB (tCB (cIsiX K) (tCons (tVar 1) (tCons (tC (.ty "list")) tNil)))) (tNot (tB (tCB (cIsiX K) (tCons (tVar 0) (tCons (tC (.ty "list")) tNil))))))
  (tRet (tC (.bl false)))
  tNext)
  (tSeq (tIfS (tTest (tOp (oNe K) (tCB (cLenX K) (tCons (tVar 0) tNil)) (tCB (cLenX K) (tCons (tVar 1) tNil))))
  (tRet (tC (.bl false)))
  tNext)
  (tSeq (tFor (iRng1 (tCons (tCB (cLenX K) (tCons (tVar 1) tNil)) tNil)) (gName 2)
  (tIfS (tNot (tB (tCall rec [] E0 (tCons (tOp (oIxX K) (tVar 0) (tVar 2)) (tCons (tOp (oIxX K) (tVar 1) (tVar 2)) tNil)))))
  (tRet (tC (.bl false)))
  tNext))
  (tRet (tC (.bl true)))))))))))
abbrev sp__law_same (K : PySem.W.Frag) (A : Ad) : Sp := Conc K (F__law_same A)
abbrev rec_law_same (K : PySem.W.Frag) (A : Ad) (n : Nat) : Sp := Conc K (R__law_same A n)
def a__law_same (A : Ad) (rec : AF) : ATS :=
  (aSeq (aIfS (aTest (aOp (fIsN false) (aVar 1) (aC .non)))
  (aRet (aOp (fIsN false) (aVar 0) (aC .non)))
  aNext)
  (aSeq (aIfS (aTest (aCB fIsi (aCons (aVar 1) (aCons (aC (.ty "bool")) aNil))))
  (aRet (aAndV (aCB fIsi (aCons (aVar 0) (aCons (aC (.ty "bool")) aNil))) (aOp (fEq false) (aVar 0) (aVar 1))))
  aNext)
  (aSeq (aIfS (aTest (aCB fIsi (aCons (aVar 1) (aCons (aC (.ty "int")) aNil))))
  (aRet (aAndV (aCB fIsi (aCons (aVar 0) (aCons (aC (.ty "int")) aNil))) (aAndV (aNotV (aCB fIsi (aCons (aVar 0) (aCons (aC (.ty "bool")) aNil)))) (aOp (fEq false) (aVar 0) (aVar 1)))))
  aNext)
  (aSeq (aIfS (aTest (aCB fIsi (aCons (aVar 1) (aCons (aC (.ty "str")) aNil))))
  (aRet (aAndV (aCB fIsi (aCons (aVar 0) (aCons (aC (.ty "str")) aNil))) (aOp (fEq false) (aVar 0) (aVar 1))))
  aNext)
  (aSeq (aIfS (aAnd (aTest (aCB fIsi (aCons (aVar 1) (aCons (aC (.ty "tuple")) aNil)))) (aNot (aTest (aCB fIsi (aCons (aVar 0) (aCons (aC (.ty "tuple")) aNil))))))
  (aRet (aC (.bl false)))
  aNext)
  (aSeq (aIfS (aAnd (aTest (aCB fIsi (aCons (aVar 1) (aCons (aC (.ty "list")) aNil)))) (aNot (aTest (aCB fIsi (aCons (aVar 0) (aCons (aC (.ty "list")) aNil))))))
  (aRet (aC (.bl false)))
  aNext)
  (aSeq (aIfS (aTest (aOp (fEq true) (aCB fLen (aCons (aVar 0) aNil)) (aCB fLen (aCons (aVar 1) aNil))))
  (aRet (aC (.bl false)))
  aNext)
  (aSeq (aFor (iRng1A (aCons (aCB fLen (aCons (aVar 1) aNil)) aNil)) (aName 2)
  (aIfS (aNot (aTest (aCB (aFn [true, true] rec X0) (aCons (aOp fIx (aVar 0) (aVar 2)) (aCons (aOp fIx (aVar 1) (aVar 2)) aNil)))))
  (aRet (aC (.bl false)))
  aNext))
  (aRet (aC (.bl true)))))))))))
theorem sim__law_same {K : PySem.W.Frag} {A : Ad} (TX : Caught K A) (rec : AF) {w0 : W} {E : XK} {X : XA} (hX : XOk K w0 E X) : SimS K w0 (t__law_same K A (Conc K rec)) (a__law_same A rec) :=
  (sim_seq (sim_ifS (sim_test (sim_op so_isN sim_var (sim_c fun w => .non)))
  (sim_ret (sim_op so_isN sim_var (sim_c fun w => .non)))
  sim_next)
  (sim_seq (sim_ifS (sim_tB (sim_cb sc_isi (sim_cons sim_var (sim_cons (sim_c fun w => .ty _) sim_nil))))
  (sim_ret (sim_andV (sim_cb sc_isi (sim_cons sim_var (sim_cons (sim_c fun w => .ty _) sim_nil))) (sim_op so_eq sim_var sim_var)))
  sim_next)
  (sim_seq (sim_ifS (sim_tB (sim_cb sc_isi (sim_cons sim_var (sim_cons (sim_c fun w => .ty _) sim_nil))))
  (sim_ret (sim_andV (sim_cb sc_isi (sim_cons sim_var (sim_cons (sim_c fun w => .ty _) sim_nil))) (sim_andV (sim_notV (sim_cb sc_isi (sim_cons sim_var (sim_cons (sim_c fun w => .ty _) sim_nil)))) (sim_op so_eq sim_var sim_var))))
  sim_next)
  (sim_seq (sim_ifS (sim_tB (sim_cb sc_isi (sim_cons sim_var (sim_cons (sim_c fun w => .ty _) sim_nil))))
  (sim_ret (sim_andV (sim_cb sc_isi (sim_cons sim_var (sim_cons (sim_c fun w => .ty _) sim_nil))) (sim_op so_eq sim_var sim_var)))
  sim_next)
  (sim_seq (sim_ifS (sim_and (sim_tB (sim_cb sc_isi (sim_cons sim_var (sim_cons (sim_c fun w => .ty _) sim_nil)))) (sim_not (sim_tB (sim_cb sc_isi (sim_cons sim_var (sim_cons (sim_c fun w => .ty _) sim_nil))))))
  (sim_ret (sim_c fun w => .bl _))
  sim_next)
  (sim_seq (sim_ifS (sim_and (sim_tB (sim_cb sc_isi (sim_cons sim_var (sim_cons (sim_c fun w => .ty _) sim_nil)))) (sim_not (sim_tB (sim_cb sc_isi (sim_cons sim_var (sim_cons (sim_c fun w => .ty _) sim_nil))))))
  (sim_ret (sim_c fun w => .bl _))
  sim_next)
  (sim_seq (sim_ifS (sim_test (sim_op so_ne (sim_cb sc_len (sim_cons sim_var sim_nil)) (sim_cb sc_len (sim_cons sim_var sim_nil))))
  (sim_ret (sim_c fun w => .bl _))
  sim_next)
  (sim_seq (sim_for (si_rng1 (sim_cons (sim_cb sc_len (sim_cons sim_var sim_nil)) sim_nil)) sim_name
  (sim_ifS (sim_not (sim_tB (sim_call xok0 (sim_cons (sim_op so_ix sim_var sim_var) (sim_cons (sim_op so_ix sim_var sim_var) sim_nil)))))
  (sim_ret (sim_c fun w => .bl _))
  sim_next))
  (sim_ret (sim_c fun w => .bl _))))))))))
theorem ax__law_same {A : Ad} {n : Nat} {ags : List Ag} {R : Ag → List Res → Prop} {X : XA} (h : R__law_same A (n + 1) ags R X) : a__law_same A (R__law_same A n) (aEnds (agS 0 ags).2.length R) (aStart 3 ags) := by
  obtain ⟨a, b, d, rfl, ha, hb, hd, k⟩ := h
  unfold a__law_same
  have sc : ∀ {a : Ag} {d : D}, AgIs a d → (∀ l, d ≠ .lst l) → a = .dat d := fun h n => h.elim id fun ⟨l, _, e⟩ => absurd e (n l)
  rcases hd with rfl | ⟨q, rfl⟩ | ⟨i, rfl⟩ | ⟨s, rfl⟩ | ⟨l, rfl, hl, hx⟩ | ⟨l, rfl, hl, hx⟩
  · cases sc ha (fun _ z => nomatch z)
    cases sc hb (fun _ z => nomatch z)
    dsimp only [aStart, agS, aEnds]
    walk_at "ai"
    exact k
  · cases sc ha (fun _ z => nomatch z)
    cases sc hb (fun _ z => nomatch z)
    dsimp only [aStart, agS, aEnds]
    walk_at "ai"
    refine s_eqB (bb := decide (V.bl q = V.bl q)) rfl rfl rfl ?_
    rw [decide_eq_true rfl]
    exact k
  · cases sc ha (fun _ z => nomatch z)
    cases sc hb (fun _ z => nomatch z)
    dsimp only [aStart, agS, aEnds]
    walk_at "ai"
    rw [if_neg Bool.false_ne_true, decide_eq_true rfl]
    exact k
  · cases sc ha (fun _ z => nomatch z)
    cases sc hb (fun _ z => nomatch z)
    dsimp only [aStart, agS, aEnds]
    walk_at "ai"
    rw [if_neg Bool.false_ne_true, decide_eq_true rfl]
    exact k
  · cases sc ha (fun _ z => nomatch z)
    cases sc hb (fun _ z => nomatch z)
    dsimp only [aStart, agS, aEnds]
    walk_at "ai"
    rw [if_pos rfl, decide_eq_true rfl]
    walk_at "ai"
    refine s_kRng rfl (by omega) (by omega) ⟨trivial, loop_at (fun i st => ∃ x, st = ⟨[some (.dat (.tup l)), some (.dat (.tup l)), x], []⟩) ⟨_, rfl⟩ ?_ ?_⟩
    · rintro i d st N hd hN ⟨x, rfl⟩
      obtain ⟨hi, rfl⟩ := rng_get hd
      have hi' : i < l.length := by omega
      walk_at "aw"
      refine s_ixQ (d := l[i]) rfl rfl (at_of (by omega) (by rw [show (0 + (i : Int)).toNat = i by omega]; exact List.getElem?_eq_getElem hi')) ?_
      walk_at "aw"
      refine s_ixQ (d := l[i]) rfl rfl (at_of (by omega) (by rw [show (0 + (i : Int)).toNat = i by omega]; exact List.getElem?_eq_getElem hi')) ?_
      walk_at "aw"
      refine ⟨_, _, l[i], rfl, .inl rfl, .inl rfl, hx _ (List.getElem_mem hi'), ?_⟩
      walk_at "ai"
      exact ⟨trivial, hN _ ⟨_, rfl⟩⟩
    · rintro st ⟨x, rfl⟩
      walk_at "aw"
      exact k
  · rcases ha with rfl | ⟨l', rfl, e⟩ <;> rcases hb with rfl | ⟨l2, rfl, e2⟩
    all_goals (try cases e); (try cases e2)
    · dsimp only [aStart, agS, aEnds]
      walk_at "ai"
      rw [if_pos rfl, decide_eq_true rfl]
      walk_at "ai"
      refine s_kRng rfl (by omega) (by omega) ⟨trivial, loop_at (fun i st => ∃ x, st = ⟨[some (.dat (.lst l)), some (.dat (.lst l)), x], []⟩) ⟨_, rfl⟩ ?_ ?_⟩
      · rintro i d st N hd hN ⟨x, rfl⟩
        obtain ⟨hi, rfl⟩ := rng_get hd
        have hi' : i < l.length := by omega
        walk_at "aw"
        refine s_ixQ (d := l[i]) rfl rfl (at_of (by omega) (by rw [show (0 + (i : Int)).toNat = i by omega]; exact List.getElem?_eq_getElem hi')) ?_
        walk_at "aw"
        refine s_ixQ (d := l[i]) rfl rfl (at_of (by omega) (by rw [show (0 + (i : Int)).toNat = i by omega]; exact List.getElem?_eq_getElem hi')) ?_
        walk_at "aw"
        refine ⟨_, _, l[i], rfl, .inl rfl, .inl rfl, hx _ (List.getElem_mem hi'), ?_⟩
        walk_at "ai"
        exact ⟨trivial, hN _ ⟨_, rfl⟩⟩
      · rintro st ⟨x, rfl⟩
        walk_at "aw"
        exact k
    · dsimp only [aStart, agS, aEnds]
      walk_at "ai"
      rw [if_pos rfl, decide_eq_true rfl]
      walk_at "ai"
      refine s_kRng rfl (by omega) (by omega) ⟨trivial, loop_at (fun i st => ∃ x, st = ⟨[some (.dat (.lst l)), some (.res 0), x], [.lst l]⟩) ⟨_, rfl⟩ ?_ ?_⟩
      · rintro i d st N hd hN ⟨x, rfl⟩
        obtain ⟨hi, rfl⟩ := rng_get hd
        have hi' : i < l.length := by omega
        walk_at "aw"
        refine s_ixQ (d := l[i]) rfl rfl (at_of (by omega) (by rw [show (0 + (i : Int)).toNat = i by omega]; exact List.getElem?_eq_getElem hi')) ?_
        walk_at "aw"
        refine s_ixQ (d := l[i]) rfl rfl (at_of (by omega) (by rw [show (0 + (i : Int)).toNat = i by omega]; exact List.getElem?_eq_getElem hi')) ?_
        walk_at "aw"
        refine ⟨_, _, l[i], rfl, .inl rfl, .inl rfl, hx _ (List.getElem_mem hi'), ?_⟩
        walk_at "ai"
        exact ⟨trivial, hN _ ⟨_, rfl⟩⟩
      · rintro st ⟨x, rfl⟩
        walk_at "aw"
        exact k
    · dsimp only [aStart, agS, aEnds]
      walk_at "ai"
      rw [if_pos rfl, decide_eq_true rfl]
      walk_at "ai"
      refine s_kRng rfl (by omega) (by omega) ⟨trivial, loop_at (fun i st => ∃ x, st = ⟨[some (.res 0), some (.dat (.lst l)), x], [.lst l]⟩) ⟨_, rfl⟩ ?_ ?_⟩
      · rintro i d st N hd hN ⟨x, rfl⟩
        obtain ⟨hi, rfl⟩ := rng_get hd
        have hi' : i < l.length := by omega
        walk_at "aw"
        refine s_ixQ (d := l[i]) rfl rfl (at_of (by omega) (by rw [show (0 + (i : Int)).toNat = i by omega]; exact List.getElem?_eq_getElem hi')) ?_
        walk_at "aw"
        refine s_ixQ (d := l[i]) rfl rfl (at_of (by omega) (by rw [show (0 + (i : Int)).toNat = i by omega]; exact List.getElem?_eq_getElem hi')) ?_
        walk_at "aw"
        refine ⟨_, _, l[i], rfl, .inl rfl, .inl rfl, hx _ (List.getElem_mem hi'), ?_⟩
        walk_at "ai"
        exact ⟨trivial, hN _ ⟨_, rfl⟩⟩
      · rintro st ⟨x, rfl⟩
        walk_at "aw"
        exact k
    · dsimp only [aStart, agS, aEnds]
      walk_at "ai"
      rw [if_pos rfl, decide_eq_true rfl]
      walk_at "ai"
      refine s_kRng rfl (by omega) (by omega) ⟨trivial, loop_at (fun i st => ∃ x, st = ⟨[some (.res 0), some (.res 1), x], [.lst l, .lst l]⟩) ⟨_, rfl⟩ ?_ ?_⟩
      · rintro i d st N hd hN ⟨x, rfl⟩
        obtain ⟨hi, rfl⟩ := rng_get hd
        have hi' : i < l.length := by omega
        walk_at "aw"
        refine s_ixQ (d := l[i]) rfl rfl (at_of (by omega) (by rw [show (0 + (i : Int)).toNat = i by omega]; exact List.getElem?_eq_getElem hi')) ?_
        walk_at "aw"
        refine s_ixQ (d := l[i]) rfl rfl (at_of (by omega) (by rw [show (0 + (i : Int)).toNat = i by omega]; exact List.getElem?_eq_getElem hi')) ?_
        walk_at "aw"
        refine ⟨_, _, l[i], rfl, .inl rfl, .inl rfl, hx _ (List.getElem_mem hi'), ?_⟩
        walk_at "ai"
        exact ⟨trivial, hN _ ⟨_, rfl⟩⟩
      · rintro st ⟨x, rfl⟩
        walk_at "aw"
        exact k
theorem pure__law_same {K : PySem.W.Frag} {A : Ad} {n : Nat} (TX : Caught K A) {vs : List V} {H : Hp} {Q : VK} {E : XK} (h : rec_law_same K A (n + 1) vs H Q E) : t__law_same K A (rec_law_same K A n) { nx := fun _ H' => Q .non H', rt := Q } (L2.start ["_law_actual", "_law_expected", "_law_k"] vs) H :=
  fn_ok (a := fun X => a__law_same A (R__law_same A n)) (fun w0 X hX => sim__law_same TX (R__law_same A n) hX) (fun ags R X hF => ax__law_same hF) h
theorem no_law_same {K : PySem.W.Frag} {A : Ad} {vs : List V} {H : Hp} {Q : VK} {E : XK} (z : rec_law_same K A 0 vs H Q E) : False := by
  obtain ⟨_, _, _, _, _, _, ⟨_, _, _, _, _, _, hf, _⟩, _⟩ := z
  exact hf

/-! ### names told -/
theorem str_cons {z : Str} (h : 1 ≤ z.length) : ∃ c r, z.cps.toList = c :: r := by
  rw [← slen] at h
  cases q : z.cps.toList with
  | nil => rw [q] at h; cases h
  | cons c r => exact ⟨c, r, rfl⟩
theorem name_iff {z : Str} {c : Nat} {r : List Nat} (e : z.cps.toList = c :: r) : NameS z ↔ z.length ≤ 12 ∧ c ∈ lets ∧ ∀ x ∈ z.cps.toList, x ∈ lets ++ digs := by
  refine ⟨fun h => ⟨h.le, ?_, NameL.all h⟩, fun h => ⟨⟨c, r, e, h.2.1⟩, h.2.2, by rw [slen]; exact h.1⟩⟩
  obtain ⟨c', r', e', hc⟩ := NameL.fst h
  rw [e] at e'
  cases e'
  exact hc
def F_is_name (_ : Ad) : AF := fun ags R _ => ∃ z, ags = [.dat (.str z)] ∧ z.length ≤ 1000 ∧ R (.dat (.bl (decide (NameS z)))) []
def t_is_name (K : PySem.W.Frag) (A : Ad) : TS :=
  (tSeq (tIfS (tOr (tNot (tTest (tChain oLe oLe (tC (.int 1)) (tCB (cLenX K) (tCons (tVar 0) tNil)) (tC g_LONGEST_NAME)))) (tTest (tOp (oNotInX K) (tOp (oIxX K) (tVar 0) (tC (.int 0))) (tC g_LETTERS))))
  (tRet (tC (.bl false)))
  tNext)
  (tRet (tCB (rAll K) (tCons (tLc (iAny K (tVar 0)) (gName 1) tYes (tOp (oInX K) (tVar 1) (tC g_LETTERS_AND_DIGITS)) [1]) tNil))))
abbrev sp_is_name (K : PySem.W.Frag) (A : Ad) : Sp := Conc K (F_is_name A)
def a_is_name (A : Ad) : ATS :=
  (aSeq (aIfS (aOr (aNot (aTest (aChain fLe fLe (aC (.int 1)) (aCB fLen (aCons (aVar 0) aNil)) (aC (.int 12))))) (aTest (aOp (fIn true) (aOp fIx (aVar 0) (aC (.int 0))) (aC (.str "abcdefghijklmnopqrstuvwxyz")))))
  (aRet (aC (.bl false)))
  aNext)
  (aRet (aCB fAll (aCons (aLc (iAnyA (aVar 0)) (aName 1) aYes (aOp (fIn false) (aVar 1) (aC (.str "abcdefghijklmnopqrstuvwxyz0123456789"))) [1]) aNil))))
theorem sim_is_name {K : PySem.W.Frag} {A : Ad} (TX : Caught K A) {w0 : W} {E : XK} {X : XA} (hX : XOk K w0 E X) : SimS K w0 (t_is_name K A) (a_is_name A) :=
  (sim_seq (sim_ifS (sim_or (sim_not (sim_test (sim_chain so_cmp so_cmp (sim_c fun w => .int _) (sim_cb sc_len (sim_cons sim_var sim_nil)) (sim_c fun w => .int _)))) (sim_test (sim_op so_notIn (sim_op so_ix sim_var (sim_c fun w => .int _)) (sim_c fun w => .str _))))
  (sim_ret (sim_c fun w => .bl _))
  sim_next)
  (sim_ret (sim_cb sc_all (sim_cons (sim_lc si_var sim_name (wip_name (by decide)) sim_yes (sim_op so_in sim_var (sim_c fun w => .str _))) sim_nil))))
/-- whether a text of one sign is a letter or a digit -/
def ldD : D → D
  | .str s => .bl (s.cps.toList.all fun c => decide (c ∈ lets ++ digs))
  | _ => .non
theorem ax_is_name {A : Ad} {ags : List Ag} {R : Ag → List Res → Prop} {X : XA} (h : F_is_name A ags R X) : a_is_name A (aEnds (agS 0 ags).2.length R) (aStart 2 ags) := by
  obtain ⟨z, rfl, hz, k⟩ := h
  have hs : z.length ≤ sizeLine := sz100 (by omega)
  unfold a_is_name
  dsimp only [aStart, agS, aEnds]
  walk_at "aw"
  refine s_lenS rfl hs ?_
  walk_at "aw"
  refine q_dec (fun h1 => ?_) (fun h1 => ?_)
  · walk_at "aw"
    obtain ⟨c, r, hcr⟩ := str_cons (z := z) (by omega)
    refine q_ndec (fun h2 => ?_) (fun h2 => ?_)
    · walk_at "aw"
      have : ¬ NameS z := fun n => h2 (by have := n.le; omega)
      rw [decide_eq_false this] at k
      exact k
    walk_at "aw"
    refine s_ixS (cc := c) rfl rfl hs (by rw [hcr]; exact at_of (i := 0) (by decide) rfl) ?_
    walk_at "aw"
    refine s_inS rfl rfl rfl ?_
    rw [if_pos rfl, lets_is, st8_list]
    walk_at "aw"
    refine q_ndec (fun h3 => ?_) (fun h3 => ?_)
    · walk_at "aw"
      have : ¬ NameS z := fun n => h3 ((name_iff hcr).mp n).2.1
      rw [decide_eq_false this] at k
      exact k
    walk_at "aw"
    refine s_lcMap ldD ?_ iAnyV_mono
    refine s_iVS rfl rfl ⟨fun _ _ => trivial, trivial, ?_, fun d hd acc K hK => ?_, ?_⟩
    · unfold chD; rw [List.length_map, slen]; exact Nat.lt_of_le_of_lt hz (by decide)
    · obtain ⟨c2, hc2, rfl⟩ := List.mem_map.mp hd
      refine s_name (hK _ fun K' hK' => ?_)
      walk_at "aw"
      refine s_inS rfl rfl rfl ?_
      rw [if_neg Bool.false_ne_true, ld_is, st8_list]
      have e : ldD (.str ⟨#[c2]⟩) = .bl (decide (c2 ∈ lets ++ digs)) := by
        show D.bl ([c2].all _) = _
        rw [List.all_cons, List.all_nil, Bool.and_true]
      rw [e] at hK'
      exact hK'
    walk_at "aw"
    refine s_all (bs := z.cps.toList.map fun c => decide (c ∈ lets ++ digs)) rfl ?_ ?_
    · unfold chD
      rw [List.map_map, List.map_map, List.map_map]
      refine List.map_congr_left fun c _ => ?_
      show blOf (.bl ([c].all _)) = _
      rw [List.all_cons, List.all_nil, Bool.and_true]
      rfl
    have e : ((z.cps.toList.map fun c => decide (c ∈ lets ++ digs)).all id) = decide (NameS z) := by
      rw [List.all_map]
      by_cases hn : NameS z
      · rw [decide_eq_true hn, List.all_eq_true]
        exact fun x hx => decide_eq_true (NameL.all hn x hx)
      · rw [decide_eq_false hn, Bool.eq_false_iff]
        intro q
        rw [List.all_eq_true] at q
        exact hn ((name_iff hcr).mpr ⟨by omega, h3, fun x hx => of_decide_eq_true (q x hx)⟩)
    rw [e]
    exact k
  · walk_at "ai"
    have : ¬ NameS z := fun n => h1 (by have := n.ge; omega)
    rw [decide_eq_false this] at k
    exact k
theorem pure_is_name {K : PySem.W.Frag} {A : Ad} (TX : Caught K A) {vs : List V} {H : Hp} {Q : VK} {E : XK} (h : sp_is_name K A vs H Q E) : t_is_name K A { nx := fun _ H' => Q .non H', rt := Q } (L2.start ["text", "letter"] vs) H :=
  fn_ok (a := fun X => a_is_name A) (fun w0 X hX => sim_is_name TX hX) (fun ags R X hF => ax_is_name hF) h
def F_check_name (A : Ad) : AF := fun ags R X => ∃ z, ags = [.dat (.str z)] ∧ z.length ≤ 1000 ∧ (NameS z → R (.dat (.str z)) []) ∧ (¬ NameS z → X A.c_BadName "name" (.str z) [])
def t_check_name (K : PySem.W.Frag) (A : Ad) (E : XK) : TS :=
  (tSeq (tIfS (tNot (tB (tCall (sp_is_name K A) [] E0 (tCons (tVar 0) tNil))))
  (tRaiseE A.c_BadName "name" (fun cls d _ H => E cls d H) (tCons (tVar 0) tNil))
  tNext)
  (tRet (tVar 0)))
abbrev sp_check_name (K : PySem.W.Frag) (A : Ad) : Sp := Conc K (F_check_name A)
def a_check_name (A : Ad) (X : XA) : ATS :=
  (aSeq (aIfS (aNot (aTest (aCB (aFn [false] (F_is_name A) X0) (aCons (aVar 0) aNil))))
  (aRaise A.c_BadName "name" X (aCons (aVar 0) aNil))
  aNext)
  (aRet (aVar 0)))
theorem sim_check_name {K : PySem.W.Frag} {A : Ad} (TX : Caught K A) {w0 : W} {E : XK} {X : XA} (hX : XOk K w0 E X) : SimS K w0 (t_check_name K A E) (a_check_name A X) :=
  (sim_seq (sim_ifS (sim_not (sim_tB (sim_call xok0 (sim_cons sim_var sim_nil))))
  (sim_raise hX (sim_cons sim_var sim_nil))
  sim_next)
  (sim_ret sim_var))
theorem ax_check_name {A : Ad} {ags : List Ag} {R : Ag → List Res → Prop} {X : XA} (h : F_check_name A ags R X) : a_check_name A (fun c f d ρ => X c f d (ρ.take (agS 0 ags).2.length)) (aEnds (agS 0 ags).2.length R) (aStart 1 ags) := by
  obtain ⟨z, rfl, hz, k1, k2⟩ := h
  unfold a_check_name
  dsimp only [aStart, agS, aEnds]
  walk_at "aw"
  refine ⟨z, rfl, hz, ?_⟩
  walk_at "aw"
  refine q_ndec (fun hn => ?_) (fun hn => ?_)
  · walk_at "aw"
    exact k2 hn
  · walk_at "aw"
    exact k1 hn
theorem pure_check_name {K : PySem.W.Frag} {A : Ad} (TX : Caught K A) {vs : List V} {H : Hp} {Q : VK} {E : XK} (h : sp_check_name K A vs H Q E) : t_check_name K A E { nx := fun _ H' => Q .non H', rt := Q } (L2.start ["name"] vs) H :=
  fn_ok (a := fun X => a_check_name A X) (fun w0 X hX => sim_check_name TX hX) (fun ags R X hF => ax_check_name hF) h
def F_check_number (A : Ad) : AF := fun ags R X => ∃ n : Int, ags = [.dat (.int n)] ∧ (0 ≤ n ∧ n ≤ 999 → R (.dat (.int n)) []) ∧ (¬ (0 ≤ n ∧ n ≤ 999) → X A.c_BadNumber "number" (.int n) [])
def t_check_number (K : PySem.W.Frag) (A : Ad) (E : XK) : TS :=
  (tSeq (tIfS (tNot (tTest (tChain oLe oLe (tC (.int 0)) (tVar 0) (tC g_GREATEST_NUMBER))))
  (tRaiseE A.c_BadNumber "number" (fun cls d _ H => E cls d H) (tCons (tVar 0) tNil))
  tNext)
  (tRet (tVar 0)))
abbrev sp_check_number (K : PySem.W.Frag) (A : Ad) : Sp := Conc K (F_check_number A)
def a_check_number (A : Ad) (X : XA) : ATS :=
  (aSeq (aIfS (aNot (aTest (aChain fLe fLe (aC (.int 0)) (aVar 0) (aC (.int 999)))))
  (aRaise A.c_BadNumber "number" X (aCons (aVar 0) aNil))
  aNext)
  (aRet (aVar 0)))
theorem sim_check_number {K : PySem.W.Frag} {A : Ad} (TX : Caught K A) {w0 : W} {E : XK} {X : XA} (hX : XOk K w0 E X) : SimS K w0 (t_check_number K A E) (a_check_number A X) :=
  (sim_seq (sim_ifS (sim_not (sim_test (sim_chain so_cmp so_cmp (sim_c fun w => .int _) sim_var (sim_c fun w => .int _))))
  (sim_raise hX (sim_cons sim_var sim_nil))
  sim_next)
  (sim_ret sim_var))
theorem ax_check_number {A : Ad} {ags : List Ag} {R : Ag → List Res → Prop} {X : XA} (h : F_check_number A ags R X) : a_check_number A (fun c f d ρ => X c f d (ρ.take (agS 0 ags).2.length)) (aEnds (agS 0 ags).2.length R) (aStart 1 ags) := by
  obtain ⟨n, rfl, h1, h2⟩ := h
  unfold a_check_number
  dsimp only [aStart, agS, aEnds]
  walk_at "aw"
  refine q_dec (fun h3 => ?_) (fun h3 => ?_)
  · walk_at "aw"
    refine q_ndec (fun h4 => ?_) (fun h4 => ?_)
    · walk_at "aw"
      exact h2 (by omega)
    · walk_at "aw"
      exact h1 (by omega)
  · walk_at "ai"
    exact h2 (by omega)
theorem pure_check_number {K : PySem.W.Frag} {A : Ad} (TX : Caught K A) {vs : List V} {H : Hp} {Q : VK} {E : XK} (h : sp_check_number K A vs H Q E) : t_check_number K A E { nx := fun _ H' => Q .non H', rt := Q } (L2.start ["number"] vs) H :=
  fn_ok (a := fun X => a_check_number A X) (fun w0 X hX => sim_check_number TX hX) (fun ags R X hF => ax_check_number hF) h

/-! ### the program's errors -/
inductive Er where
  | name (z : Str) | num (i : Int) | kind (d : D) | large (n : Int) | step (z : Str)
def Er.cls (A : Ad) : Er → Addr
  | .name _ => A.c_BadName
  | .num _ => A.c_BadNumber
  | .kind _ => A.c_BadKind
  | .large _ => A.c_TooLarge
  | .step _ => A.c_UnknownStep
def Er.fld : Er → Str
  | .name _ => "name"
  | .num _ => "number"
  | .kind _ => "kind"
  | .large _ => "most"
  | .step _ => "step"
def Er.word : Er → Str
  | .name _ => "BadName"
  | .num _ => "BadNumber"
  | .kind _ => "BadKind"
  | .large _ => "TooLarge"
  | .step _ => "UnknownStep"
def Er.d : Er → D
  | .name z => .str z
  | .num i => .int i
  | .kind d => d
  | .large n => .int n
  | .step z => .str z
/-- it goes on, or the error is raised -/
def Chk (A : Ad) (X : XA) (P : Prop) (ρ : List Res) (f : Option Er) : Prop := (f = none → P) ∧ ∀ e, f = some e → X (e.cls A) e.fld e.d ρ
/-- a kind, or what was meant to be one: a word, and what its form wants or something else -/
inductive RoughD : D → Prop
  | mk {w : Str} {r : List D} (hw : PyData.strOk w = true) (hr : ∀ x ∈ r, (∃ i, x = .int i) ∨ ∃ s : Str, x = .str s ∧ s.length ≤ 1000 ∧ PyData.strOk s = true) (hl : r.length ≤ 2)
      (hn : w = "answer" ∨ w = "heal" → ∀ x, r = [x] → ∃ i, x = .int i) (hs : w = "jump" ∨ w = "swap" → ∀ x, r = [x] → ∃ s, x = .str s) : RoughD (.tup (.str w :: r))
/-- what is wrong with a kind -/
noncomputable def kindF : D → Option Er
  | .tup [.str w] => if w = "plain" then none else some (.kind (.tup [.str w]))
  | .tup [.str w, .int i] => if w = "answer" ∨ w = "heal" then (if 0 ≤ i ∧ i ≤ 999 then none else some (.num i)) else some (.kind (.tup [.str w, .int i]))
  | .tup [.str w, .str s] => if w = "jump" ∨ w = "swap" then (if NameS s then none else some (.name s)) else some (.kind (.tup [.str w, .str s]))
  | d => some (.kind d)
theorem toP_r : ∀ {r : List D}, (∀ x ∈ r, (∃ i, x = .int i) ∨ ∃ s : Str, x = .str s ∧ s.length ≤ 1000 ∧ PyData.strOk s = true) → ∃ ps, toPs r = some ps ∧ PyData.canLayAll0 ps = true ∧ PyData.depthAll ps ≤ 0 ∧ ps.length = r.length
  | [], _ => ⟨[], rfl, rfl, Nat.le_refl _, rfl⟩
  | x :: r, h => by
    obtain ⟨ps, h1, h2, h3, h4⟩ := toP_r (r := r) fun y hy => h y (List.mem_cons_of_mem _ hy)
    rcases h x List.mem_cons_self with ⟨i, rfl⟩ | ⟨s, rfl, _, hs⟩
    · refine ⟨.int i :: ps, by simp [toPs, toP, h1], by simp [PyData.canLayAll0, PyData.canLay0, h2], ?_, by simp [h4]⟩
      simp [PyData.depthAll, PyData.depth]
      omega
    · refine ⟨.str s :: ps, by simp [toPs, toP, h1], by simp [PyData.canLayAll0, PyData.canLay0, h2, hs], ?_, by simp [h4]⟩
      simp [PyData.depthAll, PyData.depth]
      omega
theorem s_eqP {w : Str} {r : List D} {ρ : List Res} {Kc : AK} {x y : Sl} (ex : x = .dat (.tup (.str w :: r))) (ey : y = .dat (.tup [.str "plain"])) (h : RoughD (.tup (.str w :: r))) (k : Kc (.dat (.bl (decide (w = "plain") && r.isEmpty))) ρ) : fEq false x y ρ Kc := by
  subst ex ey
  cases h with
  | mk hw hr hl hn hs =>
    obtain ⟨ps, h1, h2, h3, h4⟩ := toP_r hr
    unfold fEq dOf
    dsimp only
    unfold eqK
    rw [show scD (.tup (.str w :: r)) (.tup [.str "plain"]) = none from rfl]
    refine ⟨.tuple (.str w :: ps), .tuple [.str "plain"], by simp [toP, toPs, h1], by simp [toP, toPs], ?_, by decide +kernel, ?_⟩
    · simp [SeqAt.shaped, PyData.canLay0, PyData.canLayAll0, PyData.depth, PyData.depthAll, hw, h2]
      omega
    · have e : PyData.eqv (.tuple (.str w :: ps)) (.tuple [.str "plain"]) = (decide (w = "plain") && r.isEmpty) := by
        have e1 : r.isEmpty = ps.isEmpty := by
          cases r <;> cases ps <;> first | rfl | cases h4
        rw [e1]
        show ((w == "plain") && PyData.eqvAll ps []) = _
        have e2 : PyData.eqvAll ps [] = ps.isEmpty := by cases ps <;> rfl
        rw [e2, Bool.beq_eq_decide_eq]
      rw [e]
      exact k
theorem sflat (w u : Str) : eqD (.str u) (.str w) = decide (w = u) := by
  show (u == w) = _
  by_cases h : w = u
  · subst h; rw [decide_eq_true rfl]; exact beq_self_eq_true w
  · rw [decide_eq_false h]; exact beq_eq_false_iff_ne.mpr (Ne.symm h)
theorem in2 (w a b : Str) : inD (.str w) [.str a, .str b] = decide (w = a ∨ w = b) := by
  show (eqD _ _ || (eqD _ _ || false)) = _
  rw [sflat, sflat, Bool.or_false, Bool.decide_or]
theorem in4 (w a b c d : Str) : inD (.str w) ([.str a, .str b] ++ [.str c, .str d]) = decide ((w = a ∨ w = b) ∨ w = c ∨ w = d) := by
  show (eqD _ _ || (eqD _ _ || (eqD _ _ || (eqD _ _ || false)))) = _
  rw [sflat, sflat, sflat, sflat, Bool.or_false, Bool.decide_or, Bool.decide_or, Bool.decide_or, Bool.or_assoc]
def F_check_kind (A : Ad) : AF := fun ags R X => ∃ d, ags = [.dat d] ∧ RoughD d ∧ Chk A X (R (.dat .non) []) [] (kindF d)
def t_check_kind (K : PySem.W.Frag) (A : Ad) (E : XK) : TS :=
  (tSeq (tIfS (tTest (tOp (oEq K) (tVar 0) (tTup (tCons (tC (.str "plain")) tNil))))
  tRetN
  tNext)
  (tSeq (tIfS (tOr (tTest (tOp (oNe K) (tCB (cLenX K) (tCons (tVar 0) tNil)) (tC (.int 2)))) (tTest (tOp (oNotInX K) (tOp (oIxX K) (tVar 0) (tC (.int 0))) (tOp (oAddX K) (tC (.ref A.t_KINDS_WITH_NUMBER)) (tC (.ref A.t_KINDS_WITH_NAME))))))
  (tRaiseE A.c_BadKind "kind" (fun cls d _ H => E cls d H) (tCons (tVar 0) tNil))
  tNext)
  (tIfS (tTest (tOp (oInX K) (tOp (oIxX K) (tVar 0) (tC (.int 0))) (tC (.ref A.t_KINDS_WITH_NUMBER))))
  (tDrop (tCall (sp_check_number K A) [] E (tCons (tOp (oIxX K) (tVar 0) (tC (.int 1))) tNil)))
  (tDrop (tCall (sp_check_name K A) [] E (tCons (tOp (oIxX K) (tVar 0) (tC (.int 1))) tNil))))))
abbrev sp_check_kind (K : PySem.W.Frag) (A : Ad) : Sp := Conc K (F_check_kind A)
def a_check_kind (A : Ad) (X : XA) : ATS :=
  (aSeq (aIfS (aTest (aOp (fEq false) (aVar 0) (aTup (aCons (aC (.str "plain")) aNil))))
  aRetN
  aNext)
  (aSeq (aIfS (aOr (aTest (aOp (fEq true) (aCB fLen (aCons (aVar 0) aNil)) (aC (.int 2)))) (aTest (aOp (fIn true) (aOp fIx (aVar 0) (aC (.int 0))) (aOp fAdd (aC (.tup [.str "answer", .str "heal"])) (aC (.tup [.str "jump", .str "swap"]))))))
  (aRaise A.c_BadKind "kind" X (aCons (aVar 0) aNil))
  aNext)
  (aIfS (aTest (aOp (fIn false) (aOp fIx (aVar 0) (aC (.int 0))) (aC (.tup [.str "answer", .str "heal"]))))
  (aDrop (aCB (aFn [false] (F_check_number A) X) (aCons (aOp fIx (aVar 0) (aC (.int 1))) aNil)))
  (aDrop (aCB (aFn [false] (F_check_name A) X) (aCons (aOp fIx (aVar 0) (aC (.int 1))) aNil))))))
theorem sim_check_kind {K : PySem.W.Frag} {A : Ad} (TX : Caught K A) {w0 : W} {E : XK} {X : XA} (hX : XOk K w0 E X) : SimS K w0 (t_check_kind K A E) (a_check_kind A X) :=
  (sim_seq (sim_ifS (sim_test (sim_op so_eq sim_var (sim_tup (sim_cons (sim_c fun w => .str _) sim_nil))))
  sim_retN
  sim_next)
  (sim_seq (sim_ifS (sim_or (sim_test (sim_op so_ne (sim_cb sc_len (sim_cons sim_var sim_nil)) (sim_c fun w => .int _))) (sim_test (sim_op so_notIn (sim_op so_ix sim_var (sim_c fun w => .int _)) (sim_op so_add (sim_c fun w => .tup (fun H _ => TX.t_KINDS_WITH_NUMBER H) (.cons (.str _) (.cons (.str _) .nil))) (sim_c fun w => .tup (fun H _ => TX.t_KINDS_WITH_NAME H) (.cons (.str _) (.cons (.str _) .nil)))))))
  (sim_raise hX (sim_cons sim_var sim_nil))
  sim_next)
  (sim_ifS (sim_test (sim_op so_in (sim_op so_ix sim_var (sim_c fun w => .int _)) (sim_c fun w => .tup (fun H _ => TX.t_KINDS_WITH_NUMBER H) (.cons (.str _) (.cons (.str _) .nil)))))
  (sim_drop (sim_call hX (sim_cons (sim_op so_ix sim_var (sim_c fun w => .int _)) sim_nil)))
  (sim_drop (sim_call hX (sim_cons (sim_op so_ix sim_var (sim_c fun w => .int _)) sim_nil))))))
theorem ax_check_kind {A : Ad} {ags : List Ag} {R : Ag → List Res → Prop} {X : XA} (h : F_check_kind A ags R X) : a_check_kind A (fun c f d ρ => X c f d (ρ.take (agS 0 ags).2.length)) (aEnds (agS 0 ags).2.length R) (aStart 1 ags) := by
  obtain ⟨_, rfl, @⟨w, r, hw, hr, hl, hn, hs⟩, k1, k2⟩ := h
  have hR : RoughD (.tup (.str w :: r)) := .mk hw hr hl hn hs
  unfold a_check_kind
  dsimp only [aStart, agS, aEnds]
  rcases r with _ | ⟨x, _ | ⟨y, _ | ⟨z, t⟩⟩⟩
  · walk_at "aw"
    refine s_eqP rfl rfl hR ?_
    walk_at "aw"
    by_cases hp : w = "plain"
    · subst hp
      rw [decide_eq_true rfl]
      walk_at "ai"
      exact k1 (by simp [kindF])
    · rw [decide_eq_false hp]
      walk_at "ai"
      exact k2 (.kind (.tup [.str w])) (by simp [kindF, hp])
  · walk_at "aw"
    refine s_eqP rfl rfl hR ?_
    rw [show (decide (w = ("plain" : Str)) && [x].isEmpty) = false from Bool.and_false _]
    walk_at "ai"
    refine s_addT rfl rfl (by decide) ?_
    walk_at "aw"
    refine s_inQ rfl rfl rfl rfl ?_
    rw [if_pos rfl, in4]
    walk_at "aw"
    refine q_ndec (fun h1 => ?_) (fun h1 => ?_)
    · walk_at "aw"
      refine k2 (.kind _) ?_
      have h2 : ¬ (w = "answer" ∨ w = "heal") := fun z => h1 (.inl z)
      have h3 : ¬ (w = "jump" ∨ w = "swap") := fun z => h1 (.inr z)
      rcases hr x List.mem_cons_self with ⟨i, rfl⟩ | ⟨s, rfl, _, _⟩
      · show (if w = "answer" ∨ w = "heal" then _ else _) = _
        rw [if_neg h2]
      · show (if w = "jump" ∨ w = "swap" then _ else _) = _
        rw [if_neg h3]
    walk_at "aw"
    refine s_inQ rfl rfl rfl rfl ?_
    rw [if_neg Bool.false_ne_true, in2]
    walk_at "aw"
    refine q_dec (fun h2 => ?_) (fun h2 => ?_)
    · obtain ⟨i, rfl⟩ := hn h2 x rfl
      have e : kindF (.tup [.str w, .int i]) = if 0 ≤ i ∧ i ≤ 999 then none else some (.num i) := by
        show (if w = "answer" ∨ w = "heal" then _ else _) = _
        rw [if_pos h2]
      rw [e] at k1 k2
      walk_at "aw"
      refine ⟨i, rfl, fun h3 => ?_, fun h3 => ?_⟩
      · walk_at "aw"
        exact k1 (if_pos h3)
      · exact k2 (.num i) (if_neg h3)
    · have h3 : w = "jump" ∨ w = "swap" := h1.elim (fun z => absurd z h2) id
      obtain ⟨s, rfl⟩ := hs h3 x rfl
      have e : kindF (.tup [.str w, .str s]) = if NameS s then none else some (.name s) := by
        show (if w = "jump" ∨ w = "swap" then _ else _) = _
        rw [if_pos h3]
      rw [e] at k1 k2
      have hl' : s.length ≤ 1000 := by
        rcases hr (.str s) List.mem_cons_self with ⟨i, q⟩ | ⟨s', q, hh, _⟩
        · cases q
        · cases q; exact hh
      walk_at "aw"
      refine ⟨s, rfl, hl', fun h4 => ?_, fun h4 => ?_⟩
      · walk_at "aw"
        exact k1 (if_pos h4)
      · exact k2 (.name s) (if_neg h4)
  · walk_at "aw"
    refine s_eqP rfl rfl hR ?_
    rw [show (decide (w = ("plain" : Str)) && [x, y].isEmpty) = false from Bool.and_false _]
    walk_at "ai"
    refine k2 (.kind _) ?_
    simp [kindF]
  · exact absurd hl (by simp)
theorem pure_check_kind {K : PySem.W.Frag} {A : Ad} (TX : Caught K A) {vs : List V} {H : Hp} {Q : VK} {E : XK} (h : sp_check_kind K A vs H Q E) : t_check_kind K A E { nx := fun _ H' => Q .non H', rt := Q } (L2.start ["kind"] vs) H :=
  fn_ok (a := fun X => a_check_kind A X) (fun w0 X hX => sim_check_kind TX hX) (fun ags R X hF => ax_check_kind hF) h
def F_at_most (A : Ad) : AF := fun ags R X => ∃ (kvs : List (Key × D)) (n : Int), ags = [.dat (.dct kvs), .dat (.int n)] ∧ ((kvs.length : Int) ≤ n → R (.dat (.dct kvs)) []) ∧ (¬ (kvs.length : Int) ≤ n → X A.c_TooLarge "most" (.int n) [])
def t_at_most (K : PySem.W.Frag) (A : Ad) (E : XK) : TS :=
  (tSeq (tIfS (tTest (tOp oGt (tCB (cLenX K) (tCons (tVar 0) tNil)) (tVar 1)))
  (tRaiseE A.c_TooLarge "most" (fun cls d _ H => E cls d H) (tCons (tVar 1) tNil))
  tNext)
  (tRet (tVar 0)))
abbrev sp_at_most (K : PySem.W.Frag) (A : Ad) : Sp := Conc K (F_at_most A)
def a_at_most (A : Ad) (X : XA) : ATS :=
  (aSeq (aIfS (aTest (aOp fGt (aCB fLen (aCons (aVar 0) aNil)) (aVar 1)))
  (aRaise A.c_TooLarge "most" X (aCons (aVar 1) aNil))
  aNext)
  (aRet (aVar 0)))
theorem sim_at_most {K : PySem.W.Frag} {A : Ad} (TX : Caught K A) {w0 : W} {E : XK} {X : XA} (hX : XOk K w0 E X) : SimS K w0 (t_at_most K A E) (a_at_most A X) :=
  (sim_seq (sim_ifS (sim_test (sim_op so_cmp (sim_cb sc_len (sim_cons sim_var sim_nil)) sim_var))
  (sim_raise hX (sim_cons sim_var sim_nil))
  sim_next)
  (sim_ret sim_var))
theorem ax_at_most {A : Ad} {ags : List Ag} {R : Ag → List Res → Prop} {X : XA} (h : F_at_most A ags R X) : a_at_most A (fun c f d ρ => X c f d (ρ.take (agS 0 ags).2.length)) (aEnds (agS 0 ags).2.length R) (aStart 2 ags) := by
  obtain ⟨kvs, n, rfl, k1, k2⟩ := h
  unfold a_at_most
  dsimp only [aStart, agS, aEnds]
  walk_at "aw"
  refine s_lenD rfl ?_
  walk_at "aw"
  refine q_dec (fun h => ?_) (fun h => ?_)
  · walk_at "aw"
    exact k2 (by omega)
  · walk_at "aw"
    exact k1 (by omega)
theorem pure_at_most {K : PySem.W.Frag} {A : Ad} (TX : Caught K A) {vs : List V} {H : Hp} {Q : VK} {E : XK} (h : sp_at_most K A vs H Q E) : t_at_most K A E { nx := fun _ H' => Q .non H', rt := Q } (L2.start ["entries", "most"] vs) H :=
  fn_ok (a := fun X => a_at_most A X) (fun w0 X hX => sim_at_most TX hX) (fun ags R X hF => ax_at_most hF) h
/-- what is wrong with a setting -/
noncomputable def stepF (kvs : List (Key × D)) (nm : Str) (kd : D) : Option Er :=
  if ¬ NameS nm then some (.name nm) else match kindF kd with
    | some e => some e
    | none => if (putD kvs (.inr nm) kd).length ≤ 12 then none else some (.large 12)
def F_with_step (A : Ad) : AF := fun ags R X => ∃ (kvs : List (Key × D)) (nm : Str) (kd : D), ags = [.dat (.dct kvs), .dat (.str nm), .dat kd] ∧ kvs.length ≤ 12 ∧ nm.length ≤ 1000 ∧ RoughD kd ∧ Chk A X (R (.dat (.dct (putD kvs (.inr nm) kd))) []) [] (stepF kvs nm kd)
def t_with_step (K : PySem.W.Frag) (A : Ad) (E : XK) : TS :=
  (tSeq (tDrop (tCall (sp_check_name K A) [] E (tCons (tVar 1) tNil)))
  (tSeq (tDrop (tCall (sp_check_kind K A) [] E (tCons (tVar 2) tNil)))
  (tRet (tCall (sp_at_most K A) [] E (tCons (tStarKV (tVar 0) (tVar 1) (tVar 2)) (tCons (tC (.int 12)) tNil))))))
abbrev sp_with_step (K : PySem.W.Frag) (A : Ad) : Sp := Conc K (F_with_step A)
def a_with_step (A : Ad) (X : XA) : ATS :=
  (aSeq (aDrop (aCB (aFn [false] (F_check_name A) X) (aCons (aVar 1) aNil)))
  (aSeq (aDrop (aCB (aFn [false] (F_check_kind A) X) (aCons (aVar 2) aNil)))
  (aRet (aCB (aFn [false, false] (F_at_most A) X) (aCons (aStarKV (aVar 0) 1 2) (aCons (aC (.int 12)) aNil))))))
theorem sim_with_step {K : PySem.W.Frag} {A : Ad} (TX : Caught K A) {w0 : W} {E : XK} {X : XA} (hX : XOk K w0 E X) : SimS K w0 (t_with_step K A E) (a_with_step A X) :=
  (sim_seq (sim_drop (sim_call hX (sim_cons sim_var sim_nil)))
  (sim_seq (sim_drop (sim_call hX (sim_cons sim_var sim_nil)))
  (sim_ret (sim_call hX (sim_cons (sim_starKV sim_var) (sim_cons (sim_c fun w => .int _) sim_nil))))))
theorem ax_with_step {A : Ad} {ags : List Ag} {R : Ag → List Res → Prop} {X : XA} (h : F_with_step A ags R X) : a_with_step A (fun c f d ρ => X c f d (ρ.take (agS 0 ags).2.length)) (aEnds (agS 0 ags).2.length R) (aStart 3 ags) := by
  obtain ⟨kvs, nm, kd, rfl, hk, hl, hd, k1, k2⟩ := h
  unfold a_with_step
  dsimp only [aStart, agS, aEnds]
  walk_at "aw"
  refine ⟨nm, rfl, hl, fun hn => ?_, fun hn => k2 (.name nm) (by simp [stepF, hn])⟩
  walk_at "aw"
  refine ⟨kd, rfl, hd, fun hf => ?_, fun e he => k2 e (by simp [stepF, hn, he])⟩
  walk_at "aw"
  refine ⟨rfl, (fun z => nomatch z), kvs, rfl, Nat.lt_of_le_of_lt hk (by decide), .str nm, .inr nm, kd, rfl, rfl, rfl, ?_⟩
  walk_at "aw"
  refine ⟨_, 12, rfl, fun h => ?_, fun h => k2 (.large 12) ?_⟩
  · walk_at "aw"
    refine k1 ?_
    have h' : (putD kvs (Sum.inr nm : Key) kd).length ≤ 12 := by omega
    simp [stepF, hn, hf, h']
  · have h' : ¬ (putD kvs (Sum.inr nm : Key) kd).length ≤ 12 := by omega
    simp [stepF, hn, hf, h']
theorem pure_with_step {K : PySem.W.Frag} {A : Ad} (TX : Caught K A) {vs : List V} {H : Hp} {Q : VK} {E : XK} (h : sp_with_step K A vs H Q E) : t_with_step K A E { nx := fun _ H' => Q .non H', rt := Q } (L2.start ["steps", "name", "kind"] vs) H :=
  fn_ok (a := fun X => a_with_step A X) (fun w0 X hX => sim_with_step TX hX) (fun ags R X hF => ax_with_step hF) h

/-! ### books -/
abbrev bookI (A : Ad) (kvs : List (Key × D)) (zd : D) : Res := .ins A.c_Book [("_steps", .dct kvs), ("_sizes", zd)]
def F_Book___init__ (A : Ad) : AF := fun ags R _ => ags = [.res (.ins A.c_Book [])] ∧ R (.dat .non) [bookI A [] (.dct [])]
def t_Book___init__ (K : PySem.W.Frag) (A : Ad) : TS :=
  (tSeq (sFldC A.c_Book "_steps" (tVar 0) tDNewK)
  (sFldC A.c_Book "_sizes" (tVar 0) tDNewK))
abbrev sp_Book___init__ (K : PySem.W.Frag) (A : Ad) : Sp := Conc K (F_Book___init__ A)
def a_Book___init__ (A : Ad) : ATS :=
  (aSeq (asFld A.c_Book "_steps" (aVar 0) aDNew)
  (asFld A.c_Book "_sizes" (aVar 0) aDNew))
theorem sim_Book___init__ {K : PySem.W.Frag} {A : Ad} (TX : Caught K A) {w0 : W} {E : XK} {X : XA} (hX : XOk K w0 E X) : SimS K w0 (t_Book___init__ K A) (a_Book___init__ A) :=
  (sim_seq (sim_sfld sim_var sim_dnew)
  (sim_sfld sim_var sim_dnew))
theorem ax_Book___init__ {A : Ad} {ags : List Ag} {R : Ag → List Res → Prop} {X : XA} (h : F_Book___init__ A ags R X) : a_Book___init__ A (aEnds (agS 0 ags).2.length R) (aStart 1 ags) := by
  obtain ⟨rfl, k⟩ := h
  unfold a_Book___init__
  dsimp only [aStart, agS, aEnds]
  walk_at "aw"
  simpa using k
theorem pure_Book___init__ {K : PySem.W.Frag} {A : Ad} (TX : Caught K A) {vs : List V} {H : Hp} {Q : VK} {E : XK} (h : sp_Book___init__ K A vs H Q E) : t_Book___init__ K A { nx := fun _ H' => Q .non H', rt := Q } (L2.start ["self"] vs) H :=
  fn_ok (a := fun X => a_Book___init__ A) (fun w0 X hX => sim_Book___init__ TX hX) (fun ags R X hF => ax_Book___init__ hF) h
def F_Book___setitem__ (A : Ad) : AF := fun ags R X => ∃ (kvs : List (Key × D)) (zd : D) (nm : Str) (kd : D), ags = [.res (bookI A kvs zd), .dat (.str nm), .dat kd] ∧ kvs.length ≤ 12 ∧ nm.length ≤ 1000 ∧ RoughD kd ∧
  Chk A X (R (.dat .non) [bookI A (putD kvs (.inr nm) kd) zd]) [bookI A kvs zd] (stepF kvs nm kd)
def t_Book___setitem__ (K : PySem.W.Frag) (A : Ad) (E : XK) : TS :=
  (sFldC A.c_Book "_steps" (tVar 0) (tCall (sp_with_step K A) [] E (tCons (tFldC A.c_Book "_steps" (tVar 0)) (tCons (tVar 1) (tCons (tVar 2) tNil)))))
abbrev sp_Book___setitem__ (K : PySem.W.Frag) (A : Ad) : Sp := Conc K (F_Book___setitem__ A)
def a_Book___setitem__ (A : Ad) (X : XA) : ATS :=
  (asFld A.c_Book "_steps" (aVar 0) (aCB (aFn [false, false, false] (F_with_step A) X) (aCons (aFld A.c_Book "_steps" (aVar 0)) (aCons (aVar 1) (aCons (aVar 2) aNil)))))
theorem sim_Book___setitem__ {K : PySem.W.Frag} {A : Ad} (TX : Caught K A) {w0 : W} {E : XK} {X : XA} (hX : XOk K w0 E X) : SimS K w0 (t_Book___setitem__ K A E) (a_Book___setitem__ A X) :=
  (sim_sfld sim_var (sim_call hX (sim_cons (sim_fld sim_var) (sim_cons sim_var (sim_cons sim_var sim_nil)))))
theorem ax_Book___setitem__ {A : Ad} {ags : List Ag} {R : Ag → List Res → Prop} {X : XA} (h : F_Book___setitem__ A ags R X) : a_Book___setitem__ A (fun c f d ρ => X c f d (ρ.take (agS 0 ags).2.length)) (aEnds (agS 0 ags).2.length R) (aStart 3 ags) := by
  obtain ⟨kvs, zd, nm, kd, rfl, hk, hl, hd, k1, k2⟩ := h
  unfold a_Book___setitem__
  dsimp only [aStart, agS, aEnds]
  walk_at "aw"
  refine ⟨kvs, nm, kd, rfl, hk, hl, hd, fun hf => ?_, fun e he => k2 e he⟩
  walk_at "aw"
  simpa [setAll] using k1 hf
theorem pure_Book___setitem__ {K : PySem.W.Frag} {A : Ad} (TX : Caught K A) {vs : List V} {H : Hp} {Q : VK} {E : XK} (h : sp_Book___setitem__ K A vs H Q E) : t_Book___setitem__ K A E { nx := fun _ H' => Q .non H', rt := Q } (L2.start ["self", "name", "kind"] vs) H :=
  fn_ok (a := fun X => a_Book___setitem__ A X) (fun w0 X hX => sim_Book___setitem__ TX hX) (fun ags R X hF => ax_Book___setitem__ hF) h
/-- what stands under a name -/
def atD (kvs : List (Key × D)) (nm : Str) : Option D := (kvs.find? fun p => decide (p.1 = (.inr nm : Key))).map (·.2)
def hasD (kvs : List (Key × D)) (nm : Str) : Bool := kvs.any fun p => decide (p.1 = (.inr nm : Key))
theorem has_at {kvs : List (Key × D)} {nm : Str} : hasD kvs nm = (atD kvs nm).isSome := by
  unfold hasD atD
  induction kvs with
  | nil => rfl
  | cons p r ih =>
    rw [List.any_cons, List.find?_cons]
    cases decide (p.1 = (.inr nm : Key)) with
    | true => rfl
    | false => rw [Bool.false_or]; exact ih
def F_Book___getitem__ (A : Ad) : AF := fun ags R X => ∃ (kvs : List (Key × D)) (zd : D) (nm : Str), ags = [.res (bookI A kvs zd), .dat (.str nm)] ∧ (∀ d, atD kvs nm = some d → R (.dat d) [bookI A kvs zd]) ∧ (atD kvs nm = none → X A.c_UnknownStep "step" (.str nm) [bookI A kvs zd])
def t_Book___getitem__ (K : PySem.W.Frag) (A : Ad) (E : XK) : TS :=
  (tSeq (tIfS (tTest (tOp (oNotInX K) (tVar 1) (tFldC A.c_Book "_steps" (tVar 0))))
  (tRaiseE A.c_UnknownStep "step" (fun cls d _ H => E cls d H) (tCons (tVar 1) tNil))
  tNext)
  (tRet (tOp (oIxX K) (tFldC A.c_Book "_steps" (tVar 0)) (tVar 1))))
abbrev sp_Book___getitem__ (K : PySem.W.Frag) (A : Ad) : Sp := Conc K (F_Book___getitem__ A)
def a_Book___getitem__ (A : Ad) (X : XA) : ATS :=
  (aSeq (aIfS (aTest (aOp (fIn true) (aVar 1) (aFld A.c_Book "_steps" (aVar 0))))
  (aRaise A.c_UnknownStep "step" X (aCons (aVar 1) aNil))
  aNext)
  (aRet (aOp fIx (aFld A.c_Book "_steps" (aVar 0)) (aVar 1))))
theorem sim_Book___getitem__ {K : PySem.W.Frag} {A : Ad} (TX : Caught K A) {w0 : W} {E : XK} {X : XA} (hX : XOk K w0 E X) : SimS K w0 (t_Book___getitem__ K A E) (a_Book___getitem__ A X) :=
  (sim_seq (sim_ifS (sim_test (sim_op so_notIn sim_var (sim_fld sim_var)))
  (sim_raise hX (sim_cons sim_var sim_nil))
  sim_next)
  (sim_ret (sim_op so_ix (sim_fld sim_var) sim_var)))
theorem ax_Book___getitem__ {A : Ad} {ags : List Ag} {R : Ag → List Res → Prop} {X : XA} (h : F_Book___getitem__ A ags R X) : a_Book___getitem__ A (fun c f d ρ => X c f d (ρ.take (agS 0 ags).2.length)) (aEnds (agS 0 ags).2.length R) (aStart 2 ags) := by
  obtain ⟨kvs, zd, nm, rfl, k1, k2⟩ := h
  unfold a_Book___getitem__
  dsimp only [aStart, agS, aEnds]
  walk_at "aw"
  refine s_inD rfl rfl rfl ?_
  rw [if_pos rfl]
  have hh : hasD kvs nm = (atD kvs nm).isSome := has_at
  unfold hasD at hh
  rw [hh]
  walk_at "aw"
  cases q : atD kvs nm with
  | none =>
    walk_at "ai"
    exact k2 q
  | some d =>
    walk_at "ai"
    refine s_ixD rfl rfl rfl q ?_
    walk_at "aw"
    exact k1 d q
theorem pure_Book___getitem__ {K : PySem.W.Frag} {A : Ad} (TX : Caught K A) {vs : List V} {H : Hp} {Q : VK} {E : XK} (h : sp_Book___getitem__ K A vs H Q E) : t_Book___getitem__ K A E { nx := fun _ H' => Q .non H', rt := Q } (L2.start ["self", "name"] vs) H :=
  fn_ok (a := fun X => a_Book___getitem__ A X) (fun w0 X hX => sim_Book___getitem__ TX hX) (fun ags R X hF => ax_Book___getitem__ hF) h

theorem inZ (w : Str) : ∀ zs : List Str, inD (.str w) (zs.map .str) = decide (w ∈ zs)
  | [] => rfl
  | z :: zs => by
    show (eqD _ _ || inD (.str w) (zs.map .str)) = _
    rw [sflat, inZ w zs]
    simp
theorem flatZ : ∀ zs : List Str, (zs.map D.str).all flatD = true
  | [] => rfl
  | z :: zs => by rw [List.map_cons, List.all_cons, flatZ zs]; rfl
theorem any_keys {kvs : List (Key × D)} {zs : List Str} {nm : Str} (h : kvs.map (·.1) = zs.map Sum.inr) : (kvs.any fun p => decide (p.1 = (.inr nm : Key))) = decide (nm ∈ zs) := by
  have e : (kvs.any fun p => decide (p.1 = (.inr nm : Key))) = (kvs.map (·.1)).any fun q => decide (q = (.inr nm : Key)) := by rw [List.any_map]; rfl
  rw [e, h, List.any_map]
  clear e h
  induction zs with
  | nil => rfl
  | cons z zs ih =>
    rw [List.any_cons, ih]
    by_cases q : nm = z
    · subst q
      simp
    · have : (decide ((Sum.inr z : Key) = Sum.inr nm)) = false := decide_eq_false fun z' => q (Sum.inr.inj z').symm
      show (decide ((Sum.inr z : Key) = Sum.inr nm) || _) = _
      rw [this, Bool.false_or]
      simp [q]
theorem put_len {kvs : List (Key × D)} {zs : List Str} {nm : Str} {d : D} (h : kvs.map (·.1) = zs.map Sum.inr) : (putD kvs (.inr nm) d).length = if nm ∈ zs then kvs.length else kvs.length + 1 := by
  unfold putD
  rw [any_keys h]
  by_cases q : nm ∈ zs
  · rw [decide_eq_true q, if_pos rfl, if_pos q, List.length_map]
  · rw [decide_eq_false q, if_neg Bool.false_ne_true, if_neg q, List.length_append]; rfl
theorem put_keys {kvs : List (Key × D)} {zs : List Str} {nm : Str} {d : D} (h : kvs.map (·.1) = zs.map Sum.inr) : (putD kvs (.inr nm) d).map (·.1) = (if nm ∈ zs then zs else zs ++ [nm]).map Sum.inr := by
  unfold putD
  rw [any_keys h]
  by_cases q : nm ∈ zs
  · rw [decide_eq_true q, if_pos rfl, if_pos q, ← h, List.map_map]
    refine List.map_congr_left fun kv _ => ?_
    show (if kv.1 = _ then (kv.1, d) else kv).1 = kv.1
    split <;> rfl
  · rw [decide_eq_false q, if_neg Bool.false_ne_true, if_neg q, List.map_append, List.map_append, h]; rfl
theorem put_all {P : D → Prop} {kvs : List (Key × D)} {k : Key} {d : D} (h : ∀ p ∈ kvs, P p.2) (hd : P d) : ∀ p ∈ putD kvs k d, P p.2 := by
  unfold putD
  intro p hp
  split at hp
  · obtain ⟨kv, hm, rfl⟩ := List.mem_map.mp hp
    split
    · exact hd
    · exact h _ hm
  · rcases List.mem_append.mp hp with hp | hp
    · exact h p hp
    · rw [List.mem_singleton.mp hp]; exact hd
theorem cut_take {l : List D} {k : Int} (h : 0 ≤ k) : An.cutD l none (some k) = l.take k.toNat := by
  have e : HT.sIx l.length l.length (some ((k.toNat : Nat) : Int)) = min k.toNat l.length := HT.sIx_nat _ _ _
  rw [Int.toNat_of_nonneg h] at e
  have e0 : HT.sIx l.length 0 none = 0 := rfl
  unfold An.cutD
  rw [e0, List.drop_zero, e, Nat.sub_zero]
  rcases Nat.le_total k.toNat l.length with q | q
  · rw [Nat.min_eq_left q]
  · rw [Nat.min_eq_right q, List.take_length, List.take_of_length_le q]
theorem cut_drop {l : List D} {k : Int} (h : 0 ≤ k) : An.cutD l (some k) none = l.drop k.toNat := by
  have e : HT.sIx l.length 0 (some ((k.toNat : Nat) : Int)) = min k.toNat l.length := HT.sIx_nat _ _ _
  rw [Int.toNat_of_nonneg h] at e
  have e0 : HT.sIx l.length l.length none = l.length := rfl
  unfold An.cutD
  rw [e0, e]
  rcases Nat.le_total k.toNat l.length with q | q
  · rw [Nat.min_eq_left q, List.take_of_length_le (by rw [List.length_drop]; exact Nat.le_refl _)]
  · rw [Nat.min_eq_right q, List.drop_length, List.drop_eq_nil_of_le q, List.take_nil]

theorem sz1m {n : Nat} (h : n ≤ 1000000) : n ≤ sizeLine := Nat.le_trans h (by decide)
theorem sz1l {n : Nat} (h : n ≤ 1000000) : n < sizeLine := Nat.lt_of_le_of_lt h (by decide)
/-! ### actions as data -/
def gOf : D → Str
  | .tup (.str g :: _) => g
  | _ => ""
def sOf : D → Str
  | .tup [_, .str s, _, _] => s
  | _ => ""
def aOf : D → D
  | .tup [_, _, a, _] => a
  | _ => .non
def fOf : D → List D
  | .tup [_, _, _, .tup f] => f
  | _ => []
/-- the word of a step's kind -/
def kwOf (kvs : List (Key × D)) (s : Str) : Str := match atD kvs s with
  | some (.tup (.str w :: _)) => w
  | _ => ""
def Act4 (kvs : List (Key × D)) (d : D) : Prop := ∃ (g s : Str) (a : D) (f : List D), d = .tup [.str g, .str s, a, .tup f] ∧ ∃ w r, atD kvs s = some (.tup (.str w :: r))
def ArgD (a : D) : Prop := a = .non ∨ (∃ i : Int, a = .int i) ∨ ∃ w c : Str, a = .tup [.str w, .str c]
def ActD (kvs : List (Key × D)) (c : Nat) : Nat → D → Prop
  | 0, _ => False
  | n + 1, d => ∃ (g s : Str) (a : D) (f : List D), d = .tup [.str g, .str s, a, .tup f] ∧ (g = "done" ∨ g = "error" ∨ g = "always") ∧ (∃ w r, atD kvs s = some (.tup (.str w :: r))) ∧ ArgD a ∧ f.length ≤ c ∧ ∀ x ∈ f, ActD kvs c n x
theorem ActD.four {kvs : List (Key × D)} {c : Nat} : ∀ {n : Nat} {d : D}, ActD kvs c n d → Act4 kvs d
  | 0, _, h => h.elim
  | n + 1, d, ⟨g, s, a, f, e, _, hs, _, _, _⟩ => ⟨g, s, a, f, e, hs⟩
theorem ActD.up {kvs : List (Key × D)} {c c' : Nat} (hc : c ≤ c') : ∀ {n m : Nat} {d : D}, n ≤ m → ActD kvs c n d → ActD kvs c' m d
  | 0, _, _, _, h => h.elim
  | n + 1, 0, _, h, _ => absurd h (by omega)
  | n + 1, m + 1, d, h, ⟨g, s, a, f, e, h1, h2, h3, h4, h5⟩ => ⟨g, s, a, f, e, h1, h2, h3, Nat.le_trans h4 hc, fun x hx => ActD.up hc (by omega) (h5 x hx)⟩
noncomputable def halvesD : D → List D
  | .tup [.str g, s, a, f] => if g = "always" then [.tup [.str "done", s, a, f], .tup [.str "error", s, a, .tup []]] else [.tup [.str g, s, a, f]]
  | d => [d]
noncomputable def belowD (kw : Str → Str) (h : D) (st : List Str) : List Str := if gOf h ∈ st ∧ (gOf h = "done" ∨ kw (sOf h) = "heal" ∨ kw (sOf h) = "jump") then ["done", "error"] else st
/-- the halves from the last to the first: those that are live, and the states below -/
noncomputable def siftR (kw : Str → Str) : List D → List Str → List D × List Str
  | [], st => ([], st)
  | h :: r, st => ((if gOf h ∈ st then [h] else []) ++ (siftR kw r (belowD kw h st)).1, (siftR kw r (belowD kw h st)).2)
noncomputable def keepD (kw : Str → Str) (w : List D) (st : List Str) : List D := (siftR kw w.reverse st).1.reverse
noncomputable def twD (l : List D) : Nat := (l.takeWhile fun d => decide (gOf d = "done")).length
noncomputable def normalD (kw : Str → Str) : Nat → List D → List D
  | 0, _ => []
  | n + 1, w => (w.flatMap halvesD).flatMap fun h => (keepD kw (normalD kw n (fOf h)) ["done"]).take (twD (keepD kw (normalD kw n (fOf h)) ["done"])) ++
      [.tup [.str (gOf h), .str (sOf h), aOf h, .tup ((keepD kw (normalD kw n (fOf h)) ["done"]).drop (twD (keepD kw (normalD kw n (fOf h)) ["done"])))]]
/-! #### lengths, kinds of items -/
theorem halves_len (d : D) : (halvesD d).length ≤ 2 := by
  unfold halvesD
  split
  · split <;> simp
  · simp
theorem halves_act {kvs : List (Key × D)} {c n : Nat} {d : D} (h : ActD kvs c n d) : ∀ x ∈ halvesD d, ActD kvs c n x ∧ (gOf x = "done" ∨ gOf x = "error") := by
  cases n with
  | zero => exact h.elim
  | succ n =>
    obtain ⟨g, s, a, f, rfl, hg, hs, ha, hf, hx⟩ := h
    intro x hm
    unfold halvesD at hm
    dsimp only at hm
    split at hm
    · rcases List.mem_cons.mp hm with rfl | hm
      · exact ⟨⟨_, s, a, f, rfl, .inl rfl, hs, ha, hf, hx⟩, .inl rfl⟩
      · rw [List.mem_singleton] at hm
        subst hm
        exact ⟨⟨_, s, a, [], rfl, .inr (.inl rfl), hs, ha, Nat.zero_le _, fun x hx => nomatch hx⟩, .inr rfl⟩
    · rename_i hn
      rw [List.mem_singleton] at hm
      subst hm
      refine ⟨⟨g, s, a, f, rfl, hg, hs, ha, hf, hx⟩, ?_⟩
      rcases hg with h | h | h
      · exact .inl h
      · exact .inr h
      · exact absurd h hn
theorem halves_four {kvs : List (Key × D)} {d : D} (h : Act4 kvs d) : ∀ x ∈ halvesD d, Act4 kvs x := by
  obtain ⟨g, s, a, f, rfl, hs⟩ := h
  intro x hm
  unfold halvesD at hm
  dsimp only at hm
  split at hm
  · rcases List.mem_cons.mp hm with rfl | hm
    · exact ⟨_, s, a, f, rfl, hs⟩
    · rw [List.mem_singleton] at hm; subst hm; exact ⟨_, s, a, [], rfl, hs⟩
  · rw [List.mem_singleton] at hm; subst hm; exact ⟨_, s, a, f, rfl, hs⟩
theorem sift_sub (kw : Str → Str) : ∀ (r : List D) (st : List Str), ∀ x ∈ (siftR kw r st).1, x ∈ r
  | [], _, x, h => nomatch h
  | h :: r, st, x, hx => by
    have hx' : x ∈ (if gOf h ∈ st then [h] else []) ++ (siftR kw r (belowD kw h st)).1 := hx
    rcases List.mem_append.mp hx' with hx | hx
    · split at hx
      · rw [List.mem_singleton] at hx; rw [hx]; exact List.mem_cons_self
      · cases hx
    · exact List.mem_cons_of_mem _ (sift_sub kw r _ x hx)
theorem sift_len (kw : Str → Str) : ∀ (r : List D) (st : List Str), (siftR kw r st).1.length ≤ r.length
  | [], _ => Nat.le_refl _
  | h :: r, st => by
    show ((if gOf h ∈ st then [h] else []) ++ (siftR kw r (belowD kw h st)).1).length ≤ _
    have := sift_len kw r (belowD kw h st)
    rw [List.length_append, List.length_cons]
    split
    · rw [List.length_singleton]; omega
    · rw [List.length_nil]; omega
theorem keep_sub {kw : Str → Str} {w : List D} {st : List Str} : ∀ x ∈ keepD kw w st, x ∈ w := fun x hx => List.mem_reverse.mp (sift_sub kw _ _ x (List.mem_reverse.mp hx))
theorem keep_len {kw : Str → Str} {w : List D} {st : List Str} : (keepD kw w st).length ≤ w.length := by
  unfold keepD
  have := sift_len kw w.reverse st
  rw [List.length_reverse] at this ⊢
  exact this
theorem tw_le (l : List D) : twD l ≤ l.length := List.Sublist.length_le (List.takeWhile_sublist _)
def bnd (c : Nat) : Nat → Nat
  | 0 => 0
  | n + 1 => 2 * (1 + c * bnd c n)
theorem flat_len {α β : Type} {f : α → List β} {k : Nat} : ∀ {l : List α}, (∀ x ∈ l, (f x).length ≤ k) → (l.flatMap f).length ≤ l.length * k
  | [], _ => Nat.zero_le _
  | x :: r, h => by
    rw [List.flatMap_cons, List.length_append, List.length_cons, Nat.succ_mul]
    have h1 := h x List.mem_cons_self
    have h2 := flat_len (l := r) fun y hy => h y (List.mem_cons_of_mem _ hy)
    omega
theorem normal_len {kw : Str → Str} {kvs : List (Key × D)} {c : Nat} : ∀ {n : Nat} {w : List D}, (∀ x ∈ w, ActD kvs c n x) → (normalD kw (n + 1) w).length ≤ w.length * bnd c (n + 1)
  | 0, w, h => by
    cases w with
    | nil => exact Nat.zero_le _
    | cons x r => exact (h x List.mem_cons_self).elim
  | n + 1, w, h => by
    show ((w.flatMap halvesD).flatMap _).length ≤ _
    have h1 : (w.flatMap halvesD).length ≤ w.length * 2 := flat_len fun x _ => halves_len x
    refine Nat.le_trans (flat_len (k := 1 + c * bnd c (n + 1)) fun x hx => ?_) ?_
    · obtain ⟨y, hy, hx⟩ := List.mem_flatMap.mp hx
      obtain ⟨g, s, a, f, rfl, _, _, _, hf, hxs⟩ := (halves_act (h y hy) x hx).1
      have h2 := normal_len (kw := kw) (n := n) (w := f) hxs
      have h3 : (keepD kw (normalD kw (n + 1) f) ["done"]).length ≤ (normalD kw (n + 1) f).length := keep_len
      have h4 : f.length * bnd c (n + 1) ≤ c * bnd c (n + 1) := Nat.mul_le_mul_right _ hf
      rw [List.length_append, List.length_take, List.length_singleton]
      show min _ (keepD kw (normalD kw (n + 1) f) ["done"]).length + 1 ≤ _
      omega
    · show _ ≤ w.length * (2 * (1 + c * bnd c (n + 1)))
      rw [← Nat.mul_assoc]
      exact Nat.mul_le_mul_right _ h1
theorem normal_act {kw : Str → Str} {kvs : List (Key × D)} {c c' : Nat} (hc : c ≤ c') : ∀ {n : Nat} {w : List D}, (∀ x ∈ w, ActD kvs c n x) → c * bnd c n ≤ c' → ∀ x ∈ normalD kw (n + 1) w, ActD kvs c' n x ∧ (gOf x = "done" ∨ gOf x = "error")
  | 0, w, h, _ => by
    cases w with
    | nil => intro x hx; cases hx
    | cons x r => exact (h x List.mem_cons_self).elim
  | n + 1, w, h, hb => by
    intro x hx
    obtain ⟨y, hy, hx⟩ := List.mem_flatMap.mp hx
    obtain ⟨z, hz, hy⟩ := List.mem_flatMap.mp hy
    obtain ⟨⟨g, s, a, f, rfl, hg, hs, ha, hf, hxs⟩, hg2⟩ := halves_act (h z hz) y hy
    have hb' : c * bnd c n ≤ c' := by
      refine Nat.le_trans (Nat.mul_le_mul_left _ ?_) hb
      have mono : ∀ k, bnd c k ≤ bnd c (k + 1) := by
        intro k
        induction k with
        | zero => exact Nat.zero_le _
        | succ k ih =>
          show 2 * (1 + c * bnd c k) ≤ 2 * (1 + c * bnd c (k + 1))
          have := Nat.mul_le_mul_left c ih
          omega
      exact mono n
    have ih := normal_act (kw := kw) hc hxs hb'
    rcases List.mem_append.mp hx with hx | hx
    · obtain ⟨h1, h2⟩ := ih x (keep_sub x (List.mem_of_mem_take hx))
      exact ⟨h1.up (Nat.le_refl _) (Nat.le_succ _), h2⟩
    · rw [List.mem_singleton] at hx
      subst hx
      refine ⟨⟨g, s, a, _, rfl, hg, hs, ha, ?_, fun x hx => (ih x (keep_sub x (List.mem_of_mem_drop hx))).1⟩, hg2⟩
      have h2 := normal_len (kw := kw) (n := n) (w := f) hxs
      have h3 : (keepD kw (normalD kw (n + 1) f) ["done"]).length ≤ (normalD kw (n + 1) f).length := keep_len
      have h4 : f.length * bnd c (n + 1) ≤ c * bnd c (n + 1) := Nat.mul_le_mul_right _ hf
      rw [List.length_drop]
      show (keepD kw (normalD kw (n + 1) f) ["done"]).length - _ ≤ _
      omega
theorem halves_al {s a f : D} : halvesD (.tup [.str "always", s, a, f]) = [.tup [.str "done", s, a, f], .tup [.str "error", s, a, .tup []]] := by unfold halvesD; exact if_pos rfl
theorem halves_no {g : Str} {s a f : D} (h : ¬ g = "always") : halvesD (.tup [.str g, s, a, f]) = [.tup [.str g, s, a, f]] := by unfold halvesD; exact if_neg h
theorem flat_at {α β : Type} (f : α → List β) (l : List α) {i : Nat} {d : α} (e : l[i]? = some d) : (l.take (i + 1)).flatMap f = (l.take i).flatMap f ++ f d := by
  rw [List.take_add_one, e, List.flatMap_append]
  simp
theorem take_at {α : Type} (l : List α) {i : Nat} {d : α} (e : l[i]? = some d) : l.take (i + 1) = l.take i ++ [d] := by
  rw [List.take_add_one, e]; rfl
theorem flat_le {α β : Type} {f : α → List β} {l : List α} {i : Nat} : ((l.take i).flatMap f).length ≤ (l.flatMap f).length := by
  conv => rhs; rw [← List.take_append_drop i l, List.flatMap_append, List.length_append]
  omega
/-- what one half gives -/
noncomputable def stepN (kw : Str → Str) (n : Nat) (h : D) : List D := (keepD kw (normalD kw n (fOf h)) ["done"]).take (twD (keepD kw (normalD kw n (fOf h)) ["done"])) ++
  [.tup [.str (gOf h), .str (sOf h), aOf h, .tup ((keepD kw (normalD kw n (fOf h)) ["done"]).drop (twD (keepD kw (normalD kw n (fOf h)) ["done"])))]]
theorem tw_lt {l : List D} {i : Nat} {d : D} (e : l[i]? = some d) (h : i ≤ twD l) : (gOf d = "done" → i < twD l) ∧ (¬ gOf d = "done" → i = twD l) := by
  induction l generalizing i with
  | nil => cases e
  | cons x r ih =>
    unfold twD at h ⊢
    rw [List.takeWhile_cons] at h ⊢
    cases i with
    | zero =>
      cases e
      refine ⟨fun g => ?_, fun g => ?_⟩
      · rw [if_pos (decide_eq_true g), List.length_cons]; omega
      · rw [if_neg (by rw [decide_eq_false g]; exact Bool.false_ne_true)]; rfl
    | succ i =>
      by_cases q : decide (gOf x = "done") = true
      · rw [if_pos q, List.length_cons] at h ⊢
        obtain ⟨h1, h2⟩ := ih (i := i) e (by unfold twD; omega)
        unfold twD at h1 h2
        exact ⟨fun g => by have := h1 g; omega, fun g => by have := h2 g; omega⟩
      · rw [if_neg q] at h; cases h
/-! #### bounds, said once -/
def OkN (kw : Str → Str) : Nat → List D → Prop
  | 0, ws => ws.length ≤ 500000
  | n + 1, ws => ws.length ≤ 500000 ∧ (normalD kw (n + 2) ws).length ≤ 500000 ∧ ∀ x ∈ ws, OkN kw n (fOf x)
theorem OkN.len {kw : Str → Str} : ∀ {n : Nat} {ws : List D}, OkN kw n ws → ws.length ≤ 500000
  | 0, _, h => h
  | _ + 1, _, h => h.1
theorem OkN.nlen {kw : Str → Str} {kvs : List (Key × D)} {c : Nat} : ∀ {n : Nat} {ws : List D}, (∀ x ∈ ws, ActD kvs c n x) → OkN kw n ws → (normalD kw (n + 1) ws).length ≤ 500000
  | 0, ws, hx, _ => by
    cases ws with
    | nil => exact Nat.zero_le _
    | cons x r => exact (hx x List.mem_cons_self).elim
  | _ + 1, _, _, h => h.2.1
theorem OkN.nil {kw : Str → Str} : ∀ {n : Nat}, OkN kw n []
  | 0 => Nat.zero_le _
  | _ + 1 => ⟨Nat.zero_le _, Nat.zero_le _, fun x h => nomatch h⟩
theorem halves_f {d x : D} (h : x ∈ halvesD d) (h4 : ∃ g s a f, d = .tup [.str g, s, a, .tup f]) : fOf x = fOf d ∨ fOf x = [] := by
  obtain ⟨g, s, a, f, rfl⟩ := h4
  unfold halvesD at h
  dsimp only at h
  split at h
  · rcases List.mem_cons.mp h with rfl | h
    · exact .inl rfl
    · rw [List.mem_singleton] at h; subst h; exact .inr rfl
  · rw [List.mem_singleton] at h; subst h; exact .inl rfl
theorem OkN.sub {kw : Str → Str} {kvs : List (Key × D)} {c n : Nat} {ws : List D} {h : D} (ok : OkN kw (n + 1) ws) (hx : ∀ x ∈ ws, ActD kvs c (n + 1) x) (hm : h ∈ ws.flatMap halvesD) : OkN kw n (fOf h) := by
  obtain ⟨y, hy, hm⟩ := List.mem_flatMap.mp hm
  obtain ⟨g, s, a, f, rfl, _⟩ := hx y hy
  rcases halves_f hm ⟨g, .str s, a, f, rfl⟩ with e | e
  · rw [e]; exact ok.2.2 _ hy
  · rw [e]; exact .nil
theorem OkN.of_bnd {kw : Str → Str} {kvs : List (Key × D)} {c : Nat} : ∀ {n : Nat} {ws : List D}, (∀ x ∈ ws, ActD kvs c n x) → ws.length ≤ 500000 → ws.length * bnd c (n + 1) ≤ 500000 → OkN kw n ws
  | 0, ws, _, h, _ => h
  | n + 1, ws, hx, h, hb => ⟨h, Nat.le_trans (normal_len hx) hb, fun x hm => by
    obtain ⟨g, s, a, f, rfl, _, _, _, hf, hxf⟩ := hx x hm
    have h1 : f.length * bnd c (n + 1) ≤ c * bnd c (n + 1) := Nat.mul_le_mul_right _ hf
    have h2 : 1 ≤ ws.length := by
      cases ws with
      | nil => cases hm
      | cons y r => exact Nat.succ_le_succ (Nat.zero_le _)
    have h3 : 1 * bnd c (n + 1 + 1) ≤ ws.length * bnd c (n + 1 + 1) := Nat.mul_le_mul_right _ h2
    have h4 : bnd c (n + 1 + 1) = 2 * (1 + c * bnd c (n + 1)) := rfl
    have h5 : f.length * 1 ≤ f.length * bnd c (n + 1) := Nat.mul_le_mul_left _ (by show 1 ≤ 2 * (1 + c * bnd c n); omega)
    exact OkN.of_bnd (n := n) (ws := f) hxf (by omega) (by omega)⟩
/-! #### what is in normal form stays -/
def NFA (kw : Str → Str) : Nat → D → Prop
  | 0, _ => False
  | n + 1, d => ∃ (g s : Str) (a : D) (f : List D), d = .tup [.str g, .str s, a, .tup f] ∧ (g = "done" ∨ g = "error") ∧ (∀ x ∈ f, NFA kw n x) ∧ keepD kw f ["done"] = f ∧ twD f = 0
theorem NFA.up {kw : Str → Str} : ∀ {n m : Nat} {d : D}, n ≤ m → NFA kw n d → NFA kw m d
  | 0, _, _, _, h => h.elim
  | n + 1, 0, _, h, _ => absurd h (by omega)
  | n + 1, m + 1, d, h, ⟨g, s, a, f, e, h1, h2, h3, h4⟩ => ⟨g, s, a, f, e, h1, fun x hx => NFA.up (by omega) (h2 x hx), h3, h4⟩
theorem sift_idem (kw : Str → Str) : ∀ (r : List D) (st : List Str), (siftR kw (siftR kw r st).1 st).1 = (siftR kw r st).1
  | [], _ => rfl
  | h :: r, st => by
    by_cases q : gOf h ∈ st
    · have e : (siftR kw (h :: r) st).1 = h :: (siftR kw r (belowD kw h st)).1 := by
        show (if gOf h ∈ st then [h] else []) ++ _ = _
        rw [if_pos q]; rfl
      rw [e]
      show (if gOf h ∈ st then [h] else []) ++ (siftR kw (siftR kw r (belowD kw h st)).1 (belowD kw h st)).1 = _
      rw [if_pos q, sift_idem kw r]
      rfl
    · have eb : belowD kw h st = st := if_neg fun z => q z.1
      have e : (siftR kw (h :: r) st).1 = (siftR kw r st).1 := by
        show (if gOf h ∈ st then [h] else []) ++ (siftR kw r (belowD kw h st)).1 = _
        rw [if_neg q, eb]; rfl
      rw [e]
      exact sift_idem kw r st
theorem sift_take (kw : Str → Str) : ∀ (k : List D) (st : List Str) (j : Nat), (siftR kw k st).1 = k → (siftR kw (k.take j) st).1 = k.take j
  | [], _, j, _ => by rw [List.take_nil]; rfl
  | h :: t, st, 0, _ => rfl
  | h :: t, st, j + 1, e => by
    have e' : (if gOf h ∈ st then [h] else []) ++ (siftR kw t (belowD kw h st)).1 = h :: t := e
    by_cases q : gOf h ∈ st
    · rw [if_pos q] at e'
      have e2 : (siftR kw t (belowD kw h st)).1 = t := by injection e'
      show (if gOf h ∈ st then [h] else []) ++ (siftR kw (t.take j) (belowD kw h st)).1 = h :: t.take j
      rw [if_pos q, sift_take kw t _ j e2]
      rfl
    · rw [if_neg q] at e'
      have h1 := sift_len kw t (belowD kw h st)
      have h2 := congrArg List.length e'
      rw [List.nil_append, List.length_cons] at h2
      omega
theorem keep_idem {kw : Str → Str} {w : List D} {st : List Str} : keepD kw (keepD kw w st) st = keepD kw w st := by
  unfold keepD
  rw [List.reverse_reverse, sift_idem]
theorem keep_drop {kw : Str → Str} {w : List D} {st : List Str} {j : Nat} (h : keepD kw w st = w) : keepD kw (w.drop j) st = w.drop j := by
  have h' : (siftR kw w.reverse st).1 = w.reverse := by
    have := congrArg List.reverse h
    unfold keepD at this
    rw [List.reverse_reverse] at this
    exact this
  unfold keepD
  have e : (w.drop j).reverse = w.reverse.take (w.length - j) := by rw [List.reverse_drop]
  rw [e, sift_take kw _ _ _ h', ← e, List.reverse_reverse]
theorem tw_drop : ∀ l : List D, twD (l.drop (twD l)) = 0
  | [] => rfl
  | x :: r => by
    by_cases q : decide (gOf x = "done") = true
    · have e : twD (x :: r) = twD r + 1 := by unfold twD; rw [List.takeWhile_cons, if_pos q, List.length_cons]
      rw [e, List.drop_succ_cons]
      exact tw_drop r
    · have e : twD (x :: r) = 0 := by unfold twD; rw [List.takeWhile_cons, if_neg q]; rfl
      rw [e, List.drop_zero]
      exact e
theorem normal_nf {kw : Str → Str} {kvs : List (Key × D)} {c : Nat} : ∀ {n : Nat} {w : List D}, (∀ x ∈ w, ActD kvs c n x) → ∀ x ∈ normalD kw (n + 1) w, NFA kw n x
  | 0, w, h => by
    cases w with
    | nil => intro x hx; cases hx
    | cons x r => exact (h x List.mem_cons_self).elim
  | n + 1, w, h => by
    intro x hx
    obtain ⟨y, hy, hx⟩ := List.mem_flatMap.mp hx
    obtain ⟨z, hz, hy⟩ := List.mem_flatMap.mp hy
    obtain ⟨⟨g, s, a, f, rfl, hg, hs, ha, hf, hxs⟩, hg2⟩ := halves_act (h z hz) y hy
    have ih := normal_nf (kw := kw) hxs
    rcases List.mem_append.mp hx with hx | hx
    · exact (ih x (keep_sub x (List.mem_of_mem_take hx))).up (Nat.le_succ _)
    · rw [List.mem_singleton] at hx
      subst hx
      exact ⟨g, s, a, _, rfl, hg2, fun x hx => ih x (keep_sub x (List.mem_of_mem_drop hx)), keep_drop keep_idem, tw_drop _⟩
theorem nf_normal {kw : Str → Str} : ∀ {n : Nat} {w : List D}, (∀ x ∈ w, NFA kw n x) → normalD kw (n + 1) w = w
  | 0, w, h => by
    cases w with
    | nil => rfl
    | cons x r => exact (h x List.mem_cons_self).elim
  | n + 1, w, h => by
    have e1 : w.flatMap halvesD = w := by
      have : ∀ (l : List D), (∀ x ∈ l, NFA kw (n + 1) x) → l.flatMap halvesD = l := by
        intro l
        induction l with
        | nil => intro _; rfl
        | cons x r ih =>
          intro hl
          obtain ⟨g, s, a, f, rfl, hg, _⟩ := hl x List.mem_cons_self
          rw [List.flatMap_cons, ih fun y hy => hl y (List.mem_cons_of_mem _ hy), halves_no (fun z => by subst z; revert hg; decide)]
          rfl
      exact this w h
    show (w.flatMap halvesD).flatMap _ = w
    rw [e1]
    have : ∀ (l : List D), (∀ x ∈ l, NFA kw (n + 1) x) → l.flatMap (stepN kw (n + 1)) = l := by
      intro l
      induction l with
      | nil => intro _; rfl
      | cons x r ih =>
        intro hl
        obtain ⟨g, s, a, f, rfl, hg, hf, hk, ht⟩ := hl x List.mem_cons_self
        rw [List.flatMap_cons, ih fun y hy => hl y (List.mem_cons_of_mem _ hy)]
        have e : stepN kw (n + 1) (.tup [.str g, .str s, a, .tup f]) = [.tup [.str g, .str s, a, .tup f]] := by
          unfold stepN
          rw [show fOf (.tup [.str g, .str s, a, .tup f]) = f from rfl, nf_normal hf, hk, ht]
          rfl
        rw [e]
        rfl
    exact this w h
theorem OkN.of_nf {kw : Str → Str} {kvs : List (Key × D)} {c : Nat} (hc : c ≤ 500000) : ∀ {n : Nat} {ws : List D}, (∀ x ∈ ws, ActD kvs c n x) → (∀ x ∈ ws, NFA kw n x) → ws.length ≤ 500000 → OkN kw n ws
  | 0, _, _, _, h => h
  | n + 1, ws, hx, hn, h => ⟨h, by rw [nf_normal hn]; exact h, fun x hm => by
    obtain ⟨g, s, a, f, rfl, _, _, _, hf, hxf⟩ := hx x hm
    obtain ⟨g', s', a', f', e, _, hnf, _⟩ := hn _ hm
    cases e
    exact OkN.of_nf hc (n := n) (ws := f) hxf hnf (Nat.le_trans hf hc)⟩

/-! ### the program: halves, what is live -/
def F_halves (_ : Ad) : AF := fun ags R _ => ∃ (g s : Str) (a : D) (f : List D), ags = [.dat (.tup [.str g, .str s, a, .tup f])] ∧ R (.dat (.tup (halvesD (.tup [.str g, .str s, a, .tup f])))) []
def t_halves (K : PySem.W.Frag) (A : Ad) : TS :=
  (tSeq (tAsg (tVar 0) (gTup K 4 (gCons (gName 1) (gCons (gName 2) (gCons (gName 3) (gCons (gName 4) gNil))))))
  (tSeq (tIfS (tTest (tOp (oNe K) (tVar 1) (tC (.str "always"))))
  (tRet (tTup (tCons (tVar 0) tNil)))
  tNext)
  (tRet (tTup (tCons (tTup (tCons (tC (.str "done")) (tCons (tVar 2) (tCons (tVar 3) (tCons (tVar 4) tNil))))) (tCons (tTup (tCons (tC (.str "error")) (tCons (tVar 2) (tCons (tVar 3) (tCons (tTup tNil) tNil))))) tNil))))))
abbrev sp_halves (K : PySem.W.Frag) (A : Ad) : Sp := Conc K (F_halves A)
def a_halves (A : Ad) : ATS :=
  (aSeq (aAsg (aVar 0) (aGTup 4 (aGCons (aName 1) (aGCons (aName 2) (aGCons (aName 3) (aGCons (aName 4) aGNil))))))
  (aSeq (aIfS (aTest (aOp (fEq true) (aVar 1) (aC (.str "always"))))
  (aRet (aTup (aCons (aVar 0) aNil)))
  aNext)
  (aRet (aTup (aCons (aTup (aCons (aC (.str "done")) (aCons (aVar 2) (aCons (aVar 3) (aCons (aVar 4) aNil))))) (aCons (aTup (aCons (aC (.str "error")) (aCons (aVar 2) (aCons (aVar 3) (aCons (aTup aNil) aNil))))) aNil))))))
theorem sim_halves {K : PySem.W.Frag} {A : Ad} (TX : Caught K A) {w0 : W} {E : XK} {X : XA} (hX : XOk K w0 E X) : SimS K w0 (t_halves K A) (a_halves A) :=
  (sim_seq (sim_asg sim_var (sim_gtup (sim_gcons sim_name (sim_gcons sim_name (sim_gcons sim_name (sim_gcons sim_name sim_gnil))))))
  (sim_seq (sim_ifS (sim_test (sim_op so_ne sim_var (sim_c fun w => .str _)))
  (sim_ret (sim_tup (sim_cons sim_var sim_nil)))
  sim_next)
  (sim_ret (sim_tup (sim_cons (sim_tup (sim_cons (sim_c fun w => .str _) (sim_cons sim_var (sim_cons sim_var (sim_cons sim_var sim_nil))))) (sim_cons (sim_tup (sim_cons (sim_c fun w => .str _) (sim_cons sim_var (sim_cons sim_var (sim_cons (sim_tup sim_nil) sim_nil))))) sim_nil))))))
theorem ax_halves {A : Ad} {ags : List Ag} {R : Ag → List Res → Prop} {X : XA} (h : F_halves A ags R X) : a_halves A (aEnds (agS 0 ags).2.length R) (aStart 5 ags) := by
  obtain ⟨g, s, a, f, rfl, k⟩ := h
  unfold a_halves
  walk_at "st"
  walk_at "aw"
  rw [if_pos rfl]
  refine q_ndec (fun hg => ?_) (fun hg => ?_)
  · walk_at "aw"
    rw [halves_no hg] at k
    exact k
  · walk_at "aw"
    subst hg
    rw [halves_al] at k
    exact k
theorem pure_halves {K : PySem.W.Frag} {A : Ad} (TX : Caught K A) {vs : List V} {H : Hp} {Q : VK} {E : XK} (h : sp_halves K A vs H Q E) : t_halves K A { nx := fun _ H' => Q .non H', rt := Q } (L2.start ["action", "guard", "step", "argument", "further"] vs) H :=
  fn_ok (a := fun X => a_halves A) (fun w0 X hX => sim_halves TX hX) (fun ags R X hF => ax_halves hF) h
def F_all_halves (_ : Ad) : AF := fun ags R _ => ∃ (w : D) (ws : List D) (kvs : List (Key × D)), ags = [.dat w] ∧ (w = .tup ws ∨ w = .lst ws) ∧ (∀ x ∈ ws, Act4 kvs x) ∧ ws.length ≤ 1000000 ∧ R (.res (.lst (ws.flatMap halvesD))) []
def t_all_halves (K : PySem.W.Frag) (A : Ad) : TS :=
  (tRet (tLc2 (iAny K (tVar 0)) (gName 1) tYes (iAny K (tCall (sp_halves K A) [] E0 (tCons (tVar 1) tNil))) (gName 2) tYes (tVar 2) [1, 2] [2]))
abbrev sp_all_halves (K : PySem.W.Frag) (A : Ad) : Sp := Conc K (F_all_halves A)
def a_all_halves (A : Ad) : ATS :=
  (aRet (aLc2T (iAnyA (aVar 0)) (aName 1) aYes (iTupA (aCB (aFn [false] (F_halves A) X0) (aCons (aVar 1) aNil))) (aName 2) aYes (aVar 2) [1, 2] [2]))
theorem sim_all_halves {K : PySem.W.Frag} {A : Ad} (TX : Caught K A) {w0 : W} {E : XK} {X : XA} (hX : XOk K w0 E X) : SimS K w0 (t_all_halves K A) (a_all_halves A) :=
  (sim_ret (sim_lc2T si_var sim_name (wip_name (by decide)) sim_yes (si_tup (sim_call xok0 (sim_cons sim_var sim_nil))) sim_name (wip_name (by decide)) sim_yes sim_var))
theorem ax_all_halves {A : Ad} {ags : List Ag} {R : Ag → List Res → Prop} {X : XA} (h : F_all_halves A ags R X) : a_all_halves A (aEnds (agS 0 ags).2.length R) (aStart 3 ags) := by
  obtain ⟨w, ws, kvs, rfl, hw, hx, hl, k⟩ := h
  have hfl : ∀ i, ((ws.take i).flatMap halvesD).length ≤ 2000000 := fun i => by
    have h1 : ((ws.take i).flatMap halvesD).length ≤ _ := flat_len (k := 2) fun x _ => halves_len x
    have h2 := List.length_take_le i ws
    rw [List.length_take] at h1
    omega
  unfold a_all_halves
  walk_at "st"
  walk_at "aw"
  have core : ∀ (gd : List Res → Prop) (Kc : AK), (∀ ρ, gd ρ) → Kc (.res 0) [.lst (ws.flatMap halvesD)] → gd ([] ++ [Res.lst []]) ∧ aLc2L (aName 1) aYes (iTupA (aCB (aFn [false] (F_halves A) X0) (aCons (aVar 1) aNil))) (aName 2) aYes (aVar 2) [2] [some (Sl.dat w), none, none] 0 gd Kc ws ([] ++ [Res.lst []]) := by
    intro gd Kc hg hk
    refine ⟨hg _, lc2_out (fun i ρ => ρ = [.lst ((ws.take i).flatMap halvesD)]) rfl ?_ ?_⟩
    · rintro i d ρ N hd hN rfl
      obtain ⟨g, s, a, f, rfl, hs⟩ := hx d (List.mem_of_getElem? hd)
      walk_at "ai"
      refine ⟨g, s, a, f, rfl, ?_⟩
      walk_at "aw"
      refine s_kTup rfl ⟨trivial, lc2_in (fun j ρ => ρ = [.lst ((ws.take i).flatMap halvesD ++ (halvesD (.tup [.str g, .str s, a, .tup f])).take j)]) ?_ ?_ ?_⟩
      · rw [List.take_zero, List.append_nil]
      · rintro j e ρ N2 he hN2 rfl
        walk_at "ai"
        refine ⟨_, rfl, ?_, hN2 _ ?_ trivial⟩
        · have := hfl i
          have h2 := halves_len (.tup [.str g, .str s, a, .tup f])
          rw [List.length_append, List.length_take]
          exact Nat.lt_of_le_of_lt (show _ ≤ 2000002 by omega) (by decide)
        · rw [take_at _ he, List.append_assoc]; rfl
      · rintro ρ rfl
        refine hN _ ?_ (hg _)
        rw [flat_at _ _ hd, List.take_length]
        rfl
    · rintro ρ rfl
      rw [List.take_length]
      exact hk
  rcases hw with rfl | rfl
  · exact s_iVT rfl rfl (core (fun _ => True) _ (fun _ => trivial) ⟨Nat.le_refl _, _, rfl, k⟩)
  · exact s_iVL rfl (x := .dat (.lst ws)) rfl rfl (core _ _ (fun _ => trivial) ⟨Nat.le_refl _, _, rfl, k⟩)
theorem pure_all_halves {K : PySem.W.Frag} {A : Ad} (TX : Caught K A) {vs : List V} {H : Hp} {Q : VK} {E : XK} (h : sp_all_halves K A vs H Q E) : t_all_halves K A { nx := fun _ H' => Q .non H', rt := Q } (L2.start ["word", "action", "half"] vs) H :=
  fn_ok (a := fun X => a_all_halves A) (fun w0 X hX => sim_all_halves TX hX) (fun ags R X hF => ax_all_halves hF) h
theorem inS2 {w : Str} {st : List Str} : inD (.str w) (st.map .str) = decide (w ∈ st) := inZ w st
def F_below (A : Ad) : AF := fun ags R _ => ∃ (h : D) (st : List Str) (kvs : List (Key × D)) (zd : D), ags = [.dat h, .dat (.tup (st.map .str)), .res (bookI A kvs zd)] ∧ Act4 kvs h ∧ R (.dat (.tup ((belowD (kwOf kvs) h st).map .str))) [bookI A kvs zd]
def t_below (K : PySem.W.Frag) (A : Ad) : TS :=
  (tSeq (tAsg (tSl (oSlX K) (tVar 0) tNoPart (tPart (tC (.int 2)))) (gTup K 2 (gCons (gName 3) (gCons (gName 4) gNil))))
  (tSeq (tIfS (tTest (tOp (oNotInX K) (tVar 3) (tVar 1)))
  (tRet (tVar 1))
  tNext)
  (tSeq (tIfS (tOr (tTest (tOp (oEq K) (tVar 3) (tC (.str "done")))) (tTest (tOp (oInX K) (tOp (oIxX K) (tIxS A.c_Book (sp_Book___getitem__ K A) (fun _ => E0) (tVar 2) (tVar 4)) (tC (.int 0))) (tC (.ref A.t_CALMING)))))
  (tRet (tC (.ref A.t_BOTH)))
  tNext)
  (tRet (tVar 1)))))
abbrev sp_below (K : PySem.W.Frag) (A : Ad) : Sp := Conc K (F_below A)
def a_below (A : Ad) : ATS :=
  (aSeq (aAsg (aSl fSl (aVar 0) aNoPart (aPart (aC (.int 2)))) (aGTup 2 (aGCons (aName 3) (aGCons (aName 4) aGNil))))
  (aSeq (aIfS (aTest (aOp (fIn true) (aVar 3) (aVar 1)))
  (aRet (aVar 1))
  aNext)
  (aSeq (aIfS (aOr (aTest (aOp (fEq false) (aVar 3) (aC (.str "done")))) (aTest (aOp (fIn false) (aOp fIx (aIxS A.c_Book (F_Book___getitem__ A) (fun _ => X0) (aVar 2) (aVar 4)) (aC (.int 0))) (aC (.tup [.str "heal", .str "jump"])))))
  (aRet (aC (.tup [.str "done", .str "error"])))
  aNext)
  (aRet (aVar 1)))))
theorem sim_below {K : PySem.W.Frag} {A : Ad} (TX : Caught K A) {w0 : W} {E : XK} {X : XA} (hX : XOk K w0 E X) : SimS K w0 (t_below K A) (a_below A) :=
  (sim_seq (sim_asg (sim_sl sl_X sim_var sim_noPart (sim_part (sim_c fun w => .int _))) (sim_gtup (sim_gcons sim_name (sim_gcons sim_name sim_gnil))))
  (sim_seq (sim_ifS (sim_test (sim_op so_notIn sim_var sim_var))
  (sim_ret sim_var)
  sim_next)
  (sim_seq (sim_ifS (sim_or (sim_test (sim_op so_eq sim_var (sim_c fun w => .str _))) (sim_test (sim_op so_in (sim_op so_ix (sim_ixS xsok0 sim_var sim_var) (sim_c fun w => .int _)) (sim_c fun w => .tup (fun H _ => TX.t_CALMING H) (.cons (.str _) (.cons (.str _) .nil))))))
  (sim_ret (sim_c fun w => .tup (fun H _ => TX.t_BOTH H) (.cons (.str _) (.cons (.str _) .nil))))
  sim_next)
  (sim_ret sim_var))))
theorem ax_below {A : Ad} {ags : List Ag} {R : Ag → List Res → Prop} {X : XA} (h : F_below A ags R X) : a_below A (aEnds (agS 0 ags).2.length R) (aStart 5 ags) := by
  obtain ⟨h, st, kvs, zd, rfl, ⟨g, s, a, f, rfl, w, r, hs⟩, k⟩ := h
  have hw : kwOf kvs s = w := by unfold kwOf; rw [hs]
  unfold belowD at k
  rw [show gOf (.tup [.str g, .str s, a, .tup f]) = g from rfl, show sOf (.tup [.str g, .str s, a, .tup f]) = s from rfl, hw] at k
  unfold a_below
  walk_at "st"
  walk_at "aw"
  refine s_slT rfl ?_
  rw [cut_take (by decide), show ([D.str g, D.str s, a, D.tup f] : List D).take (Int.toNat 2) = [.str g, .str s] from rfl]
  walk_at "aw"
  refine s_inQ rfl rfl rfl (flatZ st) ?_
  rw [if_pos rfl, inZ]
  walk_at "aw"
  refine q_ndec (fun h1 => ?_) (fun h1 => ?_)
  · walk_at "aw"
    rw [if_neg fun z => h1 z.1] at k
    exact k
  walk_at "aw"
  rw [if_neg Bool.false_ne_true]
  refine q_dec (fun h2 => ?_) (fun h2 => ?_)
  · walk_at "ai"
    rw [if_pos ⟨h1, .inl h2⟩] at k
    exact k
  walk_at "aw"
  refine s_ixS2 ?_
  walk_at "aw"
  refine ⟨⟨_, fld_res (k := 0) rfl⟩, s_fn ?_⟩
  walk_at "aw"
  refine ⟨kvs, zd, s, rfl, fun d hd => ?_, fun hn => ?_⟩
  · rw [hs] at hd
    cases hd
    walk_at "aw"
    refine s_ixQ (d := .str w) rfl rfl (at_of (by decide) rfl) ?_
    walk_at "aw"
    refine s_inQ (d := .str w) (l := [.str "heal", .str "jump"]) rfl rfl rfl rfl ?_
    rw [if_neg Bool.false_ne_true, in2]
    walk_at "aw"
    refine q_dec (fun h3 => ?_) (fun h3 => ?_)
    · walk_at "aw"
      rw [if_pos ⟨h1, .inr h3⟩] at k
      exact k
    · walk_at "aw"
      rw [if_neg fun z => z.2.elim h2 h3] at k
      exact k
  · rw [hs] at hn; cases hn
theorem pure_below {K : PySem.W.Frag} {A : Ad} (TX : Caught K A) {vs : List V} {H : Hp} {Q : VK} {E : XK} (h : sp_below K A vs H Q E) : t_below K A { nx := fun _ H' => Q .non H', rt := Q } (L2.start ["half", "states", "book", "guard", "step"] vs) H :=
  fn_ok (a := fun X => a_below A) (fun w0 X hX => sim_below TX hX) (fun ags R X hF => ax_below hF) h
theorem rev_at {α : Type} (l : List α) {i : Nat} {d : α} (e : l[i]? = some d) : l.drop i = d :: l.drop (i + 1) := by
  obtain ⟨hl, e'⟩ := List.getElem?_eq_some_iff.mp e
  rw [List.drop_eq_getElem_cons hl, e']
def F_sifted (A : Ad) : AF := fun ags R _ => ∃ (ws : List D) (st : List Str) (kvs : List (Key × D)) (zd : D), ags = [.dat (.tup ws), .dat (.tup (st.map .str)), .res (bookI A kvs zd)] ∧ (∀ x ∈ ws, Act4 kvs x) ∧ ws.length ≤ 1000000 ∧
  R (.dat (.tup [.tup (keepD (kwOf kvs) ws st), .tup ((siftR (kwOf kvs) ws.reverse st).2.map .str)])) [bookI A kvs zd]
def t_sifted (K : PySem.W.Frag) (A : Ad) : TS :=
  (tSeq (tAsg (tLst tNil) (gName 3))
  (tSeq (tFor (iAny K (tRevA K (tVar 0))) (gName 4)
  (tSeq (tIfS (tTest (tOp (oInX K) (tOp (oIxX K) (tVar 4) (tC (.int 0))) (tVar 1)))
  (tDrop (tBM K "list" rAppend (tVar 3) (tCons (tVar 4) tNil)))
  tNext)
  (tAsg (tCall (sp_below K A) [] E0 (tCons (tVar 4) (tCons (tVar 1) (tCons (tVar 2) tNil)))) (gName 1))))
  (tRet (tTup (tCons (tCB (cTupX K) (tCons (tRevA K (tVar 3)) tNil)) (tCons (tVar 1) tNil))))))
abbrev sp_sifted (K : PySem.W.Frag) (A : Ad) : Sp := Conc K (F_sifted A)
def a_sifted (A : Ad) : ATS :=
  (aSeq (aAsg (aLst aNil) (aName 3))
  (aSeq (aForT (iTupA (aRev (aVar 0))) (aName 4)
  (aSeq (aIfS (aTest (aOp (fIn false) (aOp fIx (aVar 4) (aC (.int 0))) (aVar 1)))
  (aDrop (aBML fAppend (aVar 3) (aCons (aVar 4) aNil)))
  aNext)
  (aAsg (aCB (aFn [false, false, true] (F_below A) X0) (aCons (aVar 4) (aCons (aVar 1) (aCons (aVar 2) aNil)))) (aName 1))))
  (aRet (aTup (aCons (aCB fTuple (aCons (aRev (aVar 3)) aNil)) (aCons (aVar 1) aNil))))))
theorem sim_sifted {K : PySem.W.Frag} {A : Ad} (TX : Caught K A) {w0 : W} {E : XK} {X : XA} (hX : XOk K w0 E X) : SimS K w0 (t_sifted K A) (a_sifted A) :=
  (sim_seq (sim_asg (sim_lst sim_nil) sim_name)
  (sim_seq (sim_forT (si_tup (sim_rev sim_var)) sim_name
  (sim_seq (sim_ifS (sim_test (sim_op so_in (sim_op so_ix sim_var (sim_c fun w => .int _)) sim_var))
  (sim_drop (sim_bm sb_append sim_var (sim_cons sim_var sim_nil)))
  sim_next)
  (sim_asg (sim_call xok0 (sim_cons sim_var (sim_cons sim_var (sim_cons sim_var sim_nil)))) sim_name)))
  (sim_ret (sim_tup (sim_cons (sim_cb sc_tuple (sim_cons (sim_rev sim_var) sim_nil)) (sim_cons sim_var sim_nil))))))
theorem ax_sifted {A : Ad} {ags : List Ag} {R : Ag → List Res → Prop} {X : XA} (h : F_sifted A ags R X) : a_sifted A (aEnds (agS 0 ags).2.length R) (aStart 5 ags) := by
  obtain ⟨ws, st, kvs, zd, rfl, hx, hl, k⟩ := h
  unfold a_sifted
  walk_at "st"
  walk_at "aw"
  refine s_revT rfl ?_
  refine s_kTup rfl ⟨trivial, ?_⟩
  refine loopT (fun i s' => ∃ (st' : List Str) (fo : List D) (x4 : Option Sl), s' = ⟨[some (.dat (.tup ws)), some (.dat (.tup (st'.map .str))), some (.res 0), some (.res 1), x4], [bookI A kvs zd, .lst fo]⟩ ∧ fo.length ≤ i ∧
    fo ++ (siftR (kwOf kvs) (ws.reverse.drop i) st').1 = (siftR (kwOf kvs) ws.reverse st).1 ∧ (siftR (kwOf kvs) (ws.reverse.drop i) st').2 = (siftR (kwOf kvs) ws.reverse st).2) ⟨st, [], none, rfl, Nat.le_refl _, rfl, rfl⟩ ?_ ?_
  · rintro i d s' N hd hN ⟨st', fo, x4, rfl, hfl, h1, h2⟩
    have hA := hx d (List.mem_reverse.mp (List.mem_of_getElem? hd))
    have hi : i < ws.reverse.length := (List.getElem?_eq_some_iff.mp hd).1
    rw [List.length_reverse] at hi
    rw [rev_at _ hd] at h1 h2
    obtain ⟨g, s, a, f, rfl, hs⟩ := id hA
    walk_at "as"
    refine s_cut (fun s' => s' = ⟨[some (.dat (.tup ws)), some (.dat (.tup (st'.map .str))), some (.res 0), some (.res 1), some (.dat (.tup [.str g, .str s, a, .tup f]))], [bookI A kvs zd, .lst (fo ++ if g ∈ st' then [.tup [.str g, .str s, a, .tup f]] else [])]⟩) (fun N' hN' => ?_) ?_
    · walk_at "aw"
      refine s_inQ rfl rfl rfl (flatZ st') ?_
      rw [if_neg Bool.false_ne_true, inZ]
      walk_at "aw"
      refine q_dec (fun h3 => ?_) (fun h3 => ?_)
      · walk_at "aw"
        refine ⟨⟨_, rfl⟩, ?_⟩
        walk_at "aw"
        refine s_appD (k := 1) (l := fo) rfl rfl rfl (Nat.lt_of_le_of_lt (show fo.length ≤ 1000000 by omega) (by decide)) ?_
        walk_at "aw"
        refine hN' _ ?_
        rw [if_pos h3]
        rfl
      · walk_at "aw"
        refine hN' _ ?_
        rw [if_neg h3, List.append_nil]
    · rintro s' rfl
      walk_at "aw"
      refine ⟨_, st', kvs, zd, rfl, hA, ?_⟩
      walk_at "aw"
      refine hN _ ⟨_, _, _, rfl, ?_, ?_, h2⟩ trivial
      · rw [List.length_append]; split <;> simp <;> omega
      · rw [List.append_assoc]; exact h1
  · rintro s' ⟨st', fo, x4, rfl, hfl, h1, h2⟩
    rw [List.drop_length] at h1 h2
    have h1' : fo = (siftR (kwOf kvs) ws.reverse st).1 := by rw [← h1]; exact (List.append_nil _).symm
    have h2' : st' = (siftR (kwOf kvs) ws.reverse st).2 := h2
    subst h1' h2'
    walk_at "aw"
    refine s_revL rfl ?_
    walk_at "aw"
    refine s_tupL rfl ?_
    walk_at "aw"
    exact k
theorem pure_sifted {K : PySem.W.Frag} {A : Ad} (TX : Caught K A) {vs : List V} {H : Hp} {Q : VK} {E : XK} (h : sp_sifted K A vs H Q E) : t_sifted K A { nx := fun _ H' => Q .non H', rt := Q } (L2.start ["word", "states", "book", "found", "half"] vs) H :=
  fn_ok (a := fun X => a_sifted A) (fun w0 X hX => sim_sifted TX hX) (fun ags R X hF => ax_sifted hF) h
def F_live_halves (A : Ad) : AF := fun ags R _ => ∃ (ws : List D) (st : List Str) (kvs : List (Key × D)) (zd : D), ags = [.dat (.tup ws), .dat (.tup (st.map .str)), .res (bookI A kvs zd)] ∧ (∀ x ∈ ws, Act4 kvs x) ∧ ws.length ≤ 1000000 ∧
  R (.dat (.tup (keepD (kwOf kvs) ws st))) [bookI A kvs zd]
def t_live_halves (K : PySem.W.Frag) (A : Ad) : TS :=
  (tRet (tOp (oIxX K) (tCall (sp_sifted K A) [] E0 (tCons (tVar 0) (tCons (tVar 1) (tCons (tVar 2) tNil)))) (tC (.int 0))))
abbrev sp_live_halves (K : PySem.W.Frag) (A : Ad) : Sp := Conc K (F_live_halves A)
def a_live_halves (A : Ad) : ATS :=
  (aRet (aOp fIx (aCB (aFn [false, false, true] (F_sifted A) X0) (aCons (aVar 0) (aCons (aVar 1) (aCons (aVar 2) aNil)))) (aC (.int 0))))
theorem sim_live_halves {K : PySem.W.Frag} {A : Ad} (TX : Caught K A) {w0 : W} {E : XK} {X : XA} (hX : XOk K w0 E X) : SimS K w0 (t_live_halves K A) (a_live_halves A) :=
  (sim_ret (sim_op so_ix (sim_call xok0 (sim_cons sim_var (sim_cons sim_var (sim_cons sim_var sim_nil)))) (sim_c fun w => .int _)))
theorem ax_live_halves {A : Ad} {ags : List Ag} {R : Ag → List Res → Prop} {X : XA} (h : F_live_halves A ags R X) : a_live_halves A (aEnds (agS 0 ags).2.length R) (aStart 3 ags) := by
  obtain ⟨ws, st, kvs, zd, rfl, hx, hl, k⟩ := h
  unfold a_live_halves
  walk_at "st"
  walk_at "aw"
  refine ⟨ws, st, kvs, zd, rfl, hx, hl, ?_⟩
  walk_at "aw"
  exact k
theorem pure_live_halves {K : PySem.W.Frag} {A : Ad} (TX : Caught K A) {vs : List V} {H : Hp} {Q : VK} {E : XK} (h : sp_live_halves K A vs H Q E) : t_live_halves K A { nx := fun _ H' => Q .non H', rt := Q } (L2.start ["word", "states", "book"] vs) H :=
  fn_ok (a := fun X => a_live_halves A) (fun w0 X hX => sim_live_halves TX hX) (fun ags R X hF => ax_live_halves hF) h
/-! ### the normal form -/
def WordD (w : D) (ws : List D) : Prop := w = .tup ws ∨ w = .lst ws
def R_normal (A : Ad) : Nat → AF
  | 0 => fun _ _ _ => False
  | n + 1 => fun ags R _ => ∃ (w : D) (ws : List D) (kvs : List (Key × D)) (zd : D) (c : Nat), ags = [.dat w, .res (bookI A kvs zd)] ∧ WordD w ws ∧ (∀ x ∈ ws, ActD kvs c n x) ∧ OkN (kwOf kvs) n ws ∧ R (.dat (.tup (normalD (kwOf kvs) (n + 1) ws))) [bookI A kvs zd]
def R_live (A : Ad) : Nat → AF
  | 0 => fun _ _ _ => False
  | n + 1 => fun ags R _ => ∃ (w : D) (ws : List D) (st : List Str) (kvs : List (Key × D)) (zd : D) (c : Nat), ags = [.dat w, .dat (.tup (st.map .str)), .res (bookI A kvs zd)] ∧ WordD w ws ∧ (∀ x ∈ ws, ActD kvs c n x) ∧ OkN (kwOf kvs) n ws ∧ R (.dat (.tup (keepD (kwOf kvs) (normalD (kwOf kvs) (n + 1) ws) st))) [bookI A kvs zd]
abbrev F_normal (A : Ad) : AF := R_normal A 4
abbrev F_live (A : Ad) : AF := R_live A 4
abbrev sp_normal (K : PySem.W.Frag) (A : Ad) : Sp := Conc K (F_normal A)
abbrev recnormal (K : PySem.W.Frag) (A : Ad) (n : Nat) : Sp := Conc K (R_normal A n)
abbrev sp_live (K : PySem.W.Frag) (A : Ad) : Sp := Conc K (F_live A)
abbrev reclive (K : PySem.W.Frag) (A : Ad) (n : Nat) : Sp := Conc K (R_live A n)
def t_normal (K : PySem.W.Frag) (A : Ad) (rec : Sp) : TS :=
  (tSeq (tAsg (tLst tNil) (gName 2))
  (tSeq (tFor (iAny K (tCall (sp_all_halves K A) [] E0 (tCons (tVar 0) tNil))) (gTup K 4 (gCons (gName 3) (gCons (gName 4) (gCons (gName 5) (gCons (gName 6) gNil)))))
  (tSeq (tAsg (tCall rec [] E0 (tCons (tVar 6) (tCons (tC (.ref A.t_DONE)) (tCons (tVar 1) tNil)))) (gName 7))
  (tSeq (tAsg (tC (.int 0)) (gName 8))
  (tSeq (tWhile (tAnd (tTest (tOp oLt (tVar 8) (tCB (cLenX K) (tCons (tVar 7) tNil)))) (tTest (tOp (oEq K) (tOp (oIxX K) (tOp (oIxX K) (tVar 7) (tVar 8)) (tC (.int 0))) (tC (.str "done")))))
  (tAsg (tOp (oAddX K) (tVar 8) (tC (.int 1))) (gName 8)))
  (tSeq (tDrop (tBM K "list" (rExtendX K) (tVar 2) (tCons (tSl (oSlX K) (tVar 7) tNoPart (tPart (tVar 8))) tNil)))
  (tDrop (tBM K "list" rAppend (tVar 2) (tCons (tTup (tCons (tVar 3) (tCons (tVar 4) (tCons (tVar 5) (tCons (tSl (oSlX K) (tVar 7) (tPart (tVar 8)) tNoPart) tNil))))) tNil))))))))
  (tRet (tCB (cTupX K) (tCons (tVar 2) tNil)))))
def a_normal (A : Ad) (rec : AF) : ATS :=
  (aSeq (aAsg (aLst aNil) (aName 2))
  (aSeq (aForT (iLstA (aCB (aFn [false] (F_all_halves A) X0) (aCons (aVar 0) aNil))) (aGTup 4 (aGCons (aName 3) (aGCons (aName 4) (aGCons (aName 5) (aGCons (aName 6) aGNil)))))
  (aSeq (aAsg (aCB (aFn [false, false, true] rec X0) (aCons (aVar 6) (aCons (aC (.tup [.str "done"])) (aCons (aVar 1) aNil)))) (aName 7))
  (aSeq (aAsg (aC (.int 0)) (aName 8))
  (aSeq (aWhileT (aAnd (aTest (aOp fLt (aVar 8) (aCB fLen (aCons (aVar 7) aNil)))) (aTest (aOp (fEq false) (aOp fIx (aOp fIx (aVar 7) (aVar 8)) (aC (.int 0))) (aC (.str "done")))))
  (aAsg (aOp fAdd (aVar 8) (aC (.int 1))) (aName 8)))
  (aSeq (aDrop (aBML fExtendX (aVar 2) (aCons (aSl fSl (aVar 7) aNoPart (aPart (aVar 8))) aNil)))
  (aDrop (aBML fAppend (aVar 2) (aCons (aTup (aCons (aVar 3) (aCons (aVar 4) (aCons (aVar 5) (aCons (aSl fSl (aVar 7) (aPart (aVar 8)) aNoPart) aNil))))) aNil))))))))
  (aRet (aCB fTuple (aCons (aVar 2) aNil)))))
theorem sim_normal {K : PySem.W.Frag} {A : Ad} (TX : Caught K A) (rec : AF) {w0 : W} {E : XK} {X : XA} (hX : XOk K w0 E X) : SimS K w0 (t_normal K A (Conc K rec)) (a_normal A rec) :=
  (sim_seq (sim_asg (sim_lst sim_nil) sim_name)
  (sim_seq (sim_forT (si_lst (sim_call xok0 (sim_cons sim_var sim_nil))) (sim_gtup (sim_gcons sim_name (sim_gcons sim_name (sim_gcons sim_name (sim_gcons sim_name sim_gnil)))))
  (sim_seq (sim_asg (sim_call xok0 (sim_cons sim_var (sim_cons (sim_c fun w => .tup (fun H _ => TX.t_DONE H) (.cons (.str _) .nil)) (sim_cons sim_var sim_nil)))) sim_name)
  (sim_seq (sim_asg (sim_c fun w => .int _) sim_name)
  (sim_seq (sim_whileT (sim_and (sim_test (sim_op so_cmp sim_var (sim_cb sc_len (sim_cons sim_var sim_nil)))) (sim_test (sim_op so_eq (sim_op so_ix (sim_op so_ix sim_var sim_var) (sim_c fun w => .int _)) (sim_c fun w => .str _))))
  (sim_asg (sim_op so_add sim_var (sim_c fun w => .int _)) sim_name))
  (sim_seq (sim_drop (sim_bm sb_extendX sim_var (sim_cons (sim_sl sl_X sim_var sim_noPart (sim_part sim_var)) sim_nil)))
  (sim_drop (sim_bm sb_append sim_var (sim_cons (sim_tup (sim_cons sim_var (sim_cons sim_var (sim_cons sim_var (sim_cons (sim_sl sl_X sim_var (sim_part sim_var) sim_noPart) sim_nil))))) sim_nil))))))))
  (sim_ret (sim_cb sc_tuple (sim_cons sim_var sim_nil)))))
theorem ax_normal {A : Ad} {n : Nat} {ags : List Ag} {R : Ag → List Res → Prop} {X : XA} (h : R_normal A (n + 1) ags R X) : a_normal A (R_live A n) (aEnds (agS 0 ags).2.length R) (aStart 9 ags) := by
  obtain ⟨w, ws, kvs, zd, c, rfl, hw, hx, hok, k⟩ := h
  have hl := hok.len
  unfold a_normal
  walk_at "st"
  walk_at "aw"
  refine ⟨w, ws, kvs, rfl, hw, fun x hm => (hx x hm).four, by omega, ?_⟩
  walk_at "aw"
  have hall : ∀ h ∈ ws.flatMap halvesD, ActD kvs c n h := fun h hm => by
    obtain ⟨y, hy, hm⟩ := List.mem_flatMap.mp hm
    exact (halves_act (hx y hy) h hm).1
  have hlen := OkN.nlen hx hok
  refine s_kLst rfl ⟨.inl rfl, ?_⟩
  refine loopT (fun i s' => ∃ x3 x4 x5 x6 x7 x8 : Option Sl, s' = ⟨[some (.dat w), some (.res 0), some (.res 1), x3, x4, x5, x6, x7, x8], [bookI A kvs zd, .lst (((ws.flatMap halvesD).take i).flatMap (stepN (kwOf kvs) n)), .lst (ws.flatMap halvesD)]⟩) ⟨none, none, none, none, none, none, rfl⟩ ?_ ?_
  · rintro i d s' N hd hN ⟨x3, x4, x5, x6, x7, x8, rfl⟩
    have hA := hall d (List.mem_of_getElem? hd)
    cases n with
    | zero => exact hA.elim
    | succ n =>
      obtain ⟨g, s, a, f, rfl, hg, hs, ha, hf, hxf⟩ := hA
      have hokf : OkN (kwOf kvs) n f := hok.sub hx (List.mem_of_getElem? hd)
      have hstep : ((((ws.flatMap halvesD).take i).flatMap (stepN (kwOf kvs) (n + 1))) ++ stepN (kwOf kvs) (n + 1) (.tup [.str g, .str s, a, .tup f])).length ≤ 500000 := by
        rw [← flat_at _ _ hd]
        have h1 : (((ws.flatMap halvesD).take (i + 1)).flatMap (stepN (kwOf kvs) (n + 1))).length ≤ ((ws.flatMap halvesD).flatMap (stepN (kwOf kvs) (n + 1))).length := flat_le
        have h2 : ((ws.flatMap halvesD).flatMap (stepN (kwOf kvs) (n + 1))).length = (normalD (kwOf kvs) (n + 1 + 1) ws).length := rfl
        omega
      walk_at "aw"
      refine ⟨.tup f, f, ["done"], kvs, zd, c, rfl, .inl rfl, hxf, hokf, ?_⟩
      have hKs : ∀ x ∈ keepD (kwOf kvs) (normalD (kwOf kvs) (n + 1) f) ["done"], Act4 kvs x := fun x hm =>
        (normal_act (kw := kwOf kvs) (c' := c + c * bnd c n) (Nat.le_add_right _ _) hxf (Nat.le_add_left _ _) x (keep_sub x hm)).1.four
      have hK : stepN (kwOf kvs) (n + 1) (.tup [.str g, .str s, a, .tup f]) = (keepD (kwOf kvs) (normalD (kwOf kvs) (n + 1) f) ["done"]).take (twD (keepD (kwOf kvs) (normalD (kwOf kvs) (n + 1) f) ["done"])) ++ [.tup [.str g, .str s, a, .tup ((keepD (kwOf kvs) (normalD (kwOf kvs) (n + 1) f) ["done"]).drop (twD (keepD (kwOf kvs) (normalD (kwOf kvs) (n + 1) f) ["done"])))]] := rfl
      rw [hK] at hstep
      have hnx := flat_at (stepN (kwOf kvs) (n + 1)) _ hd
      rw [hK] at hnx
      revert hKs hstep hnx
      generalize keepD (kwOf kvs) (normalD (kwOf kvs) (n + 1) f) ["done"] = K
      intro hstep hKs hnx
      rw [List.length_append, List.length_append, List.length_singleton] at hstep
      walk_at "aw"
      refine whileT (n := 3) rfl (fun m s' => ∃ at_ : Nat, s' = ⟨[some (.dat w), some (.res 0), some (.res 1), some (.dat (.str g)), some (.dat (.str s)), some (.dat a), some (.dat (.tup f)), some (.dat (.tup K)), some (.dat (.int at_))],
          [bookI A kvs zd, .lst (((ws.flatMap halvesD).take i).flatMap (stepN (kwOf kvs) (n + 1))), .lst (ws.flatMap halvesD)]⟩ ∧ at_ ≤ twD K ∧ m = twD K - at_)
        (fun s' => s' = ⟨[some (.dat w), some (.res 0), some (.res 1), some (.dat (.str g)), some (.dat (.str s)), some (.dat a), some (.dat (.tup f)), some (.dat (.tup K)), some (.dat (.int (twD K)))],
          [bookI A kvs zd, .lst (((ws.flatMap halvesD).take i).flatMap (stepN (kwOf kvs) (n + 1))), .lst (ws.flatMap halvesD)]⟩) _ ⟨0, rfl, Nat.zero_le _, rfl⟩ ?_ ?_
      · rintro m s' N' Y hN' hY ⟨at_, rfl, h1, rfl⟩
        walk_at "aw"
        refine q_dec (fun hlt => ?_) (fun hlt => ?_)
        · have hlt' : at_ < K.length := by omega
          obtain ⟨g', s1, a1, f1, e1, _⟩ := hKs K[at_] (List.getElem_mem hlt')
          have hat := tw_lt (List.getElem?_eq_getElem hlt') h1
          rw [e1] at hat
          walk_at "aw"
          refine s_ixQ (l := K) rfl rfl (at_of (by omega) (by rw [Int.toNat_natCast]; exact List.getElem?_eq_getElem hlt')) ?_
          rw [e1]
          walk_at "aw"
          rw [if_neg Bool.false_ne_true]
          refine q_dec (fun hg' => ?_) (fun hg' => ?_)
          · walk_at "aw"
            have := hat.1 hg'
            exact hN' _ _ (by omega) ⟨at_ + 1, rfl, by omega, rfl⟩
          · refine hY _ ?_
            rw [← hat.2 hg']
            rfl
        · walk_at "ai"
          refine hY _ ?_
          have := tw_le K
          rw [show twD K = at_ by omega]
          rfl
      · rintro s' rfl
        walk_at "aw"
        refine ⟨⟨_, rfl⟩, ?_⟩
        walk_at "aw"
        refine s_slT rfl ?_
        rw [cut_take (by omega), Int.toNat_natCast]
        walk_at "aw"
        refine s_extT (k := 1) (l := ((ws.flatMap halvesD).take i).flatMap (stepN (kwOf kvs) (n + 1))) rfl rfl rfl (sz1m (by omega)) ?_
        walk_at "aw"
        refine ⟨⟨_, rfl⟩, ?_⟩
        walk_at "aw"
        refine s_slT rfl ?_
        rw [cut_drop (by omega), Int.toNat_natCast]
        walk_at "aw"
        refine s_appD (k := 1) (l := ((ws.flatMap halvesD).take i).flatMap (stepN (kwOf kvs) (n + 1)) ++ K.take (twD K)) rfl rfl rfl (sz1l (by rw [List.length_append]; omega)) ?_
        walk_at "aw"
        refine hN _ ⟨some (.dat (.str g)), some (.dat (.str s)), some (.dat a), some (.dat (.tup f)), some (.dat (.tup K)), some (.dat (.int (twD K))), ?_⟩ (.inl rfl)
        rw [hnx, ← List.append_assoc]
        rfl
  · rintro s' ⟨x3, x4, x5, x6, x7, x8, rfl⟩
    walk_at "aw"
    refine s_tupL rfl ?_
    walk_at "aw"
    rw [List.take_length]
    exact k
theorem pure_normal {K : PySem.W.Frag} {A : Ad} {n : Nat} (TX : Caught K A) {vs : List V} {H : Hp} {Q : VK} {E : XK} (h : recnormal K A (n + 1) vs H Q E) : t_normal K A (reclive K A n) { nx := fun _ H' => Q .non H', rt := Q } (L2.start ["word", "book", "found", "guard", "step", "argument", "further", "inner", "at"] vs) H :=
  fn_ok (a := fun X => a_normal A (R_live A n)) (fun w0 X hX => sim_normal TX (R_live A n) hX) (fun ags R X hF => ax_normal hF) h
def t_live (K : PySem.W.Frag) (A : Ad) (rec : Sp) : TS :=
  (tRet (tCall (sp_live_halves K A) [] E0 (tCons (tCall rec [] E0 (tCons (tVar 0) (tCons (tVar 2) tNil))) (tCons (tVar 1) (tCons (tVar 2) tNil)))))
def a_live (A : Ad) (rec : AF) : ATS :=
  (aRet (aCB (aFn [false, false, true] (F_live_halves A) X0) (aCons (aCB (aFn [false, true] rec X0) (aCons (aVar 0) (aCons (aVar 2) aNil))) (aCons (aVar 1) (aCons (aVar 2) aNil)))))
theorem sim_live {K : PySem.W.Frag} {A : Ad} (TX : Caught K A) (rec : AF) {w0 : W} {E : XK} {X : XA} (hX : XOk K w0 E X) : SimS K w0 (t_live K A (Conc K rec)) (a_live A rec) :=
  (sim_ret (sim_call xok0 (sim_cons (sim_call xok0 (sim_cons sim_var (sim_cons sim_var sim_nil))) (sim_cons sim_var (sim_cons sim_var sim_nil)))))
theorem ax_live {A : Ad} {n : Nat} {ags : List Ag} {R : Ag → List Res → Prop} {X : XA} (h : R_live A n ags R X) : a_live A (R_normal A n) (aEnds (agS 0 ags).2.length R) (aStart 3 ags) := by
  cases n with
  | zero => exact h.elim
  | succ n =>
    obtain ⟨w, ws, st, kvs, zd, c, rfl, hw, hx, hok, k⟩ := h
    have hl := hok.len
    unfold a_live
    walk_at "st"
    walk_at "aw"
    refine ⟨w, ws, kvs, zd, c, rfl, hw, hx, hok, ?_⟩
    walk_at "aw"
    have hlen := OkN.nlen hx hok
    refine ⟨_, st, kvs, zd, rfl, fun x hm => ((normal_act (kw := kwOf kvs) (c' := c + c * bnd c n) (Nat.le_add_right _ _) hx (Nat.le_add_left _ _)) x hm).1.four, by omega, ?_⟩
    walk_at "aw"
    exact k
theorem pure_live {K : PySem.W.Frag} {A : Ad} {n : Nat} (TX : Caught K A) {vs : List V} {H : Hp} {Q : VK} {E : XK} (h : reclive K A n vs H Q E) : t_live K A (recnormal K A n) { nx := fun _ H' => Q .non H', rt := Q } (L2.start ["word", "states", "book"] vs) H :=
  fn_ok (a := fun X => a_live A (R_normal A n)) (fun w0 X hX => sim_live TX (R_normal A n) hX) (fun ags R X hF => ax_live hF) h
theorem nonormal {K : PySem.W.Frag} {A : Ad} {vs : List V} {H : Hp} {Q : VK} {E : XK} (z : recnormal K A 0 vs H Q E) : False := by
  obtain ⟨_, _, _, _, _, _, hf, _⟩ := z
  exact hf

/-! ### the law's own words -/
def F__law_halves (_ : Ad) : AF := fun ags R _ => ∃ (g s : Str) (a : D) (f : List D), ags = [.dat (.tup [.str g, .str s, a, .tup f])] ∧ R (.res (.lst (halvesD (.tup [.str g, .str s, a, .tup f])))) []
def t__law_halves (K : PySem.W.Frag) (A : Ad) : TS :=
  (tSeq (tIfS (tTest (tOp (oNe K) (tOp (oIxX K) (tVar 0) (tC (.int 0))) (tC (.str "always"))))
  (tRet (tLst (tCons (tVar 0) tNil)))
  tNext)
  (tRet (tLst (tCons (tTup (tCons (tC (.str "done")) (tCons (tOp (oIxX K) (tVar 0) (tC (.int 1))) (tCons (tOp (oIxX K) (tVar 0) (tC (.int 2))) (tCons (tOp (oIxX K) (tVar 0) (tC (.int 3))) tNil))))) (tCons (tTup (tCons (tC (.str "error")) (tCons (tOp (oIxX K) (tVar 0) (tC (.int 1))) (tCons (tOp (oIxX K) (tVar 0) (tC (.int 2))) (tCons (tTup tNil) tNil))))) tNil)))))
abbrev sp__law_halves (K : PySem.W.Frag) (A : Ad) : Sp := Conc K (F__law_halves A)
def a__law_halves (A : Ad) : ATS :=
  (aSeq (aIfS (aTest (aOp (fEq true) (aOp fIx (aVar 0) (aC (.int 0))) (aC (.str "always"))))
  (aRet (aLst (aCons (aVar 0) aNil)))
  aNext)
  (aRet (aLst (aCons (aTup (aCons (aC (.str "done")) (aCons (aOp fIx (aVar 0) (aC (.int 1))) (aCons (aOp fIx (aVar 0) (aC (.int 2))) (aCons (aOp fIx (aVar 0) (aC (.int 3))) aNil))))) (aCons (aTup (aCons (aC (.str "error")) (aCons (aOp fIx (aVar 0) (aC (.int 1))) (aCons (aOp fIx (aVar 0) (aC (.int 2))) (aCons (aTup aNil) aNil))))) aNil)))))
theorem sim__law_halves {K : PySem.W.Frag} {A : Ad} (TX : Caught K A) {w0 : W} {E : XK} {X : XA} (hX : XOk K w0 E X) : SimS K w0 (t__law_halves K A) (a__law_halves A) :=
  (sim_seq (sim_ifS (sim_test (sim_op so_ne (sim_op so_ix sim_var (sim_c fun w => .int _)) (sim_c fun w => .str _)))
  (sim_ret (sim_lst (sim_cons sim_var sim_nil)))
  sim_next)
  (sim_ret (sim_lst (sim_cons (sim_tup (sim_cons (sim_c fun w => .str _) (sim_cons (sim_op so_ix sim_var (sim_c fun w => .int _)) (sim_cons (sim_op so_ix sim_var (sim_c fun w => .int _)) (sim_cons (sim_op so_ix sim_var (sim_c fun w => .int _)) sim_nil))))) (sim_cons (sim_tup (sim_cons (sim_c fun w => .str _) (sim_cons (sim_op so_ix sim_var (sim_c fun w => .int _)) (sim_cons (sim_op so_ix sim_var (sim_c fun w => .int _)) (sim_cons (sim_tup sim_nil) sim_nil))))) sim_nil)))))
theorem ax__law_halves {A : Ad} {ags : List Ag} {R : Ag → List Res → Prop} {X : XA} (h : F__law_halves A ags R X) : a__law_halves A (aEnds (agS 0 ags).2.length R) (aStart 1 ags) := by
  obtain ⟨g, s, a, f, rfl, k⟩ := h
  unfold a__law_halves
  walk_at "st"
  walk_at "aw"
  rw [if_pos rfl]
  refine q_ndec (fun hg => ?_) (fun hg => ?_)
  · walk_at "aw"
    rw [halves_no hg] at k
    exact ⟨Nat.le_refl _, _, rfl, k⟩
  · walk_at "aw"
    subst hg
    rw [halves_al] at k
    exact ⟨Nat.le_refl _, _, rfl, k⟩
theorem pure__law_halves {K : PySem.W.Frag} {A : Ad} (TX : Caught K A) {vs : List V} {H : Hp} {Q : VK} {E : XK} (h : sp__law_halves K A vs H Q E) : t__law_halves K A { nx := fun _ H' => Q .non H', rt := Q } (L2.start ["_law_action_here"] vs) H :=
  fn_ok (a := fun X => a__law_halves A) (fun w0 X hX => sim__law_halves TX hX) (fun ags R X hF => ax__law_halves hF) h
theorem g_mono {g : ATG} : True := trivial
def F__law_backward (_ : Ad) : AF := fun ags R _ => ∃ (w : D) (ws : List D), ags = [.dat w] ∧ WordD w ws ∧ ws.length ≤ 1000000 ∧ R (.res (.lst ws.reverse)) []
def t__law_backward (K : PySem.W.Frag) (A : Ad) : TS :=
  (tRet (tLc (iRng1 (tCons (tCB (cLenX K) (tCons (tVar 0) tNil)) tNil)) (gName 1) tYes (tOp (oIxX K) (tVar 0) (tOp oSub (tOp oSub (tCB (cLenX K) (tCons (tVar 0) tNil)) (tC (.int 1))) (tVar 1))) [1]))
abbrev sp__law_backward (K : PySem.W.Frag) (A : Ad) : Sp := Conc K (F__law_backward A)
def a__law_backward (A : Ad) : ATS :=
  (aRet (aLcT (iRng1A (aCons (aCB fLen (aCons (aVar 0) aNil)) aNil)) (aName 1) aYes (aOp fIx (aVar 0) (aOp fSub (aOp fSub (aCB fLen (aCons (aVar 0) aNil)) (aC (.int 1))) (aVar 1))) [1]))
theorem sim__law_backward {K : PySem.W.Frag} {A : Ad} (TX : Caught K A) {w0 : W} {E : XK} {X : XA} (hX : XOk K w0 E X) : SimS K w0 (t__law_backward K A) (a__law_backward A) :=
  (sim_ret (sim_lcT (si_rng1 (sim_cons (sim_cb sc_len (sim_cons sim_var sim_nil)) sim_nil)) sim_name (wip_name (by decide)) sim_yes (sim_op so_ix sim_var (sim_op so_sub (sim_op so_sub (sim_cb sc_len (sim_cons sim_var sim_nil)) (sim_c fun w => .int _)) sim_var))))
theorem rev_get {ws : List D} {i : Nat} (hi : i < ws.length) : atI ws ((ws.length : Int) - 1 - ((0 : Int) + i)) = some (ws.reverse[i]'(by rw [List.length_reverse]; exact hi)) := by
  refine at_of (by omega) ?_
  rw [show ((ws.length : Int) - 1 - ((0 : Int) + i)).toNat = ws.length - 1 - i by omega, List.getElem_reverse, List.getElem?_eq_getElem (by omega)]
theorem ax__law_backward {A : Ad} {ags : List Ag} {R : Ag → List Res → Prop} {X : XA} (h : F__law_backward A ags R X) : a__law_backward A (aEnds (agS 0 ags).2.length R) (aStart 2 ags) := by
  obtain ⟨w, ws, rfl, hw, hl, k⟩ := h
  unfold a__law_backward
  walk_at "st"
  have hq : seqOf [] (.dat w) = some ws := by rcases hw with rfl | rfl <;> rfl
  have hq1 : ∀ r, seqOf [r] (.dat w) = some ws := fun r => by rcases hw with rfl | rfl <;> rfl
  walk_at "aw"
  refine s_lenQ hq ?_
  walk_at "aw"
  refine s_kRng rfl (by omega) (by omega) ⟨trivial, lcT (fun i ρ => ρ = [.lst (ws.reverse.take i)]) rfl ?_ ?_⟩
  · rintro i d ρ N hd hN rfl
    obtain ⟨hi, rfl⟩ := rng_get hd
    have hi' : i < ws.length := by omega
    walk_at "ai"
    refine s_lenQ (hq1 _) ?_
    walk_at "ai"
    refine s_ixQ (hq1 _) rfl (rev_get hi') ?_
    walk_at "ai"
    refine ⟨_, rfl, ?_, hN _ ?_ trivial⟩
    · rw [List.length_take]; exact sz1l (by omega)
    · rw [take_at ws.reverse (List.getElem?_eq_getElem (by rw [List.length_reverse]; exact hi'))]
      rfl
  · rintro ρ rfl
    have hl' : (rngD 0 (ws.length : Int).toNat).length = ws.reverse.length := by unfold rngD; simp
    rw [hl', List.take_length]
    exact ⟨Nat.le_refl _, _, rfl, k⟩
theorem pure__law_backward {K : PySem.W.Frag} {A : Ad} (TX : Caught K A) {vs : List V} {H : Hp} {Q : VK} {E : XK} (h : sp__law_backward K A vs H Q E) : t__law_backward K A { nx := fun _ H' => Q .non H', rt := Q } (L2.start ["_law_rows", "_law_k"] vs) H :=
  fn_ok (a := fun X => a__law_backward A) (fun w0 X hX => sim__law_backward TX hX) (fun ags R X hF => ax__law_backward hF) h
def F__law_below (_ : Ad) : AF := fun ags R _ => ∃ (h : D) (st : List Str) (kvs : List (Key × D)), ags = [.dat h, .dat (.tup (st.map .str)), .dat (.dct kvs)] ∧ Act4 kvs h ∧ R (.dat (.tup ((belowD (kwOf kvs) h st).map .str))) []
def t__law_below (K : PySem.W.Frag) (A : Ad) : TS :=
  (tSeq (tIfS (tAnd (tTest (tOp (oInX K) (tOp (oIxX K) (tVar 0) (tC (.int 0))) (tVar 1))) (tOr (tTest (tOp (oEq K) (tOp (oIxX K) (tVar 0) (tC (.int 0))) (tC (.str "done")))) (tTest (tOp (oInX K) (tOp (oIxX K) (tOp (oIxX K) (tVar 2) (tOp (oIxX K) (tVar 0) (tC (.int 1)))) (tC (.int 0))) (tTup (tCons (tC (.str "heal")) (tCons (tC (.str "jump")) tNil)))))))
  (tRet (tTup (tCons (tC (.str "done")) (tCons (tC (.str "error")) tNil))))
  tNext)
  (tRet (tVar 1)))
abbrev sp__law_below (K : PySem.W.Frag) (A : Ad) : Sp := Conc K (F__law_below A)
def a__law_below (A : Ad) : ATS :=
  (aSeq (aIfS (aAnd (aTest (aOp (fIn false) (aOp fIx (aVar 0) (aC (.int 0))) (aVar 1))) (aOr (aTest (aOp (fEq false) (aOp fIx (aVar 0) (aC (.int 0))) (aC (.str "done")))) (aTest (aOp (fIn false) (aOp fIx (aOp fIx (aVar 2) (aOp fIx (aVar 0) (aC (.int 1)))) (aC (.int 0))) (aTup (aCons (aC (.str "heal")) (aCons (aC (.str "jump")) aNil)))))))
  (aRet (aTup (aCons (aC (.str "done")) (aCons (aC (.str "error")) aNil))))
  aNext)
  (aRet (aVar 1)))
theorem sim__law_below {K : PySem.W.Frag} {A : Ad} (TX : Caught K A) {w0 : W} {E : XK} {X : XA} (hX : XOk K w0 E X) : SimS K w0 (t__law_below K A) (a__law_below A) :=
  (sim_seq (sim_ifS (sim_and (sim_test (sim_op so_in (sim_op so_ix sim_var (sim_c fun w => .int _)) sim_var)) (sim_or (sim_test (sim_op so_eq (sim_op so_ix sim_var (sim_c fun w => .int _)) (sim_c fun w => .str _))) (sim_test (sim_op so_in (sim_op so_ix (sim_op so_ix sim_var (sim_op so_ix sim_var (sim_c fun w => .int _))) (sim_c fun w => .int _)) (sim_tup (sim_cons (sim_c fun w => .str _) (sim_cons (sim_c fun w => .str _) sim_nil)))))))
  (sim_ret (sim_tup (sim_cons (sim_c fun w => .str _) (sim_cons (sim_c fun w => .str _) sim_nil))))
  sim_next)
  (sim_ret sim_var))
theorem ax__law_below {A : Ad} {ags : List Ag} {R : Ag → List Res → Prop} {X : XA} (h : F__law_below A ags R X) : a__law_below A (aEnds (agS 0 ags).2.length R) (aStart 3 ags) := by
  obtain ⟨h, st, kvs, rfl, ⟨g, s, a, f, rfl, w, r, hs⟩, k⟩ := h
  have hw : kwOf kvs s = w := by unfold kwOf; rw [hs]
  unfold belowD at k
  rw [show gOf (.tup [.str g, .str s, a, .tup f]) = g from rfl, show sOf (.tup [.str g, .str s, a, .tup f]) = s from rfl, hw] at k
  unfold a__law_below
  walk_at "st"
  walk_at "aw"
  refine s_inQ rfl rfl rfl (flatZ st) ?_
  rw [if_neg Bool.false_ne_true, inZ]
  walk_at "aw"
  refine q_dec (fun h1 => ?_) (fun h1 => ?_)
  · walk_at "aw"
    rw [if_neg Bool.false_ne_true]
    refine q_dec (fun h2 => ?_) (fun h2 => ?_)
    · walk_at "ai"
      rw [if_pos ⟨h1, .inl h2⟩] at k
      exact k
    · walk_at "aw"
      refine s_ixD rfl rfl rfl hs ?_
      walk_at "aw"
      refine s_ixQ (d := .str w) rfl rfl (at_of (by decide) rfl) ?_
      walk_at "aw"
      refine s_inQ (d := .str w) (l := [.str "heal", .str "jump"]) rfl rfl rfl rfl ?_
      rw [if_neg Bool.false_ne_true, in2]
      walk_at "aw"
      refine q_dec (fun h3 => ?_) (fun h3 => ?_)
      · walk_at "aw"
        rw [if_pos ⟨h1, .inr h3⟩] at k
        exact k
      · walk_at "aw"
        rw [if_neg fun z => z.2.elim h2 h3] at k
        exact k
  · walk_at "ai"
    rw [if_neg fun z => h1 z.1] at k
    exact k
theorem pure__law_below {K : PySem.W.Frag} {A : Ad} (TX : Caught K A) {vs : List V} {H : Hp} {Q : VK} {E : XK} (h : sp__law_below K A vs H Q E) : t__law_below K A { nx := fun _ H' => Q .non H', rt := Q } (L2.start ["_law_half", "_law_states", "_law_kinds"] vs) H :=
  fn_ok (a := fun X => a__law_below A) (fun w0 X hX => sim__law_below TX hX) (fun ags R X hF => ax__law_below hF) h
def F__law_keep (_ : Ad) : AF := fun ags R _ => ∃ (ws : List D) (st : List Str) (kvs : List (Key × D)), ags = [.dat (.tup ws), .dat (.tup (st.map .str)), .dat (.dct kvs)] ∧ (∀ x ∈ ws, Act4 kvs x) ∧ ws.length ≤ 1000000 ∧ R (.dat (.tup (keepD (kwOf kvs) ws st))) []
def t__law_keep (K : PySem.W.Frag) (A : Ad) : TS :=
  (tSeq (tAsg (tLst tNil) (gName 3))
  (tSeq (tFor (iAny K (tCall (sp__law_backward K A) [] E0 (tCons (tVar 0) tNil))) (gName 4)
  (tIfS (tTest (tOp (oInX K) (tOp (oIxX K) (tVar 4) (tC (.int 0))) (tVar 1)))
  (tSeq (tAsg (tOp (oAddX K) (tLst (tCons (tVar 4) tNil)) (tVar 3)) (gName 3))
  (tAsg (tCall (sp__law_below K A) [] E0 (tCons (tVar 4) (tCons (tVar 1) (tCons (tVar 2) tNil)))) (gName 1)))
  tNext))
  (tRet (tCB (cTupX K) (tCons (tVar 3) tNil)))))
abbrev sp__law_keep (K : PySem.W.Frag) (A : Ad) : Sp := Conc K (F__law_keep A)
def a__law_keep (A : Ad) : ATS :=
  (aSeq (aAsg (aLst aNil) (aName 3))
  (aSeq (aFor (iLstA (aCB (aFn [false] (F__law_backward A) X0) (aCons (aVar 0) aNil))) (aName 4)
  (aIfS (aTest (aOp (fIn false) (aOp fIx (aVar 4) (aC (.int 0))) (aVar 1)))
  (aSeq (aAsg (aOp fAdd (aLst (aCons (aVar 4) aNil)) (aVar 3)) (aName 3))
  (aAsg (aCB (aFn [false, false, false] (F__law_below A) X0) (aCons (aVar 4) (aCons (aVar 1) (aCons (aVar 2) aNil)))) (aName 1)))
  aNext))
  (aRet (aCB fTuple (aCons (aVar 3) aNil)))))
theorem sim__law_keep {K : PySem.W.Frag} {A : Ad} (TX : Caught K A) {w0 : W} {E : XK} {X : XA} (hX : XOk K w0 E X) : SimS K w0 (t__law_keep K A) (a__law_keep A) :=
  (sim_seq (sim_asg (sim_lst sim_nil) sim_name)
  (sim_seq (sim_for (si_lst (sim_call xok0 (sim_cons sim_var sim_nil))) sim_name
  (sim_ifS (sim_test (sim_op so_in (sim_op so_ix sim_var (sim_c fun w => .int _)) sim_var))
  (sim_seq (sim_asg (sim_op so_add (sim_lst (sim_cons sim_var sim_nil)) sim_var) sim_name)
  (sim_asg (sim_call xok0 (sim_cons sim_var (sim_cons sim_var (sim_cons sim_var sim_nil)))) sim_name))
  sim_next))
  (sim_ret (sim_cb sc_tuple (sim_cons sim_var sim_nil)))))
theorem below_no {kw : Str → Str} {h : D} {st : List Str} (n : ¬ gOf h ∈ st) : belowD kw h st = st := if_neg fun z => n z.1
theorem ax__law_keep {A : Ad} {ags : List Ag} {R : Ag → List Res → Prop} {X : XA} (h : F__law_keep A ags R X) : a__law_keep A (aEnds (agS 0 ags).2.length R) (aStart 5 ags) := by
  obtain ⟨ws, st, kvs, rfl, hx, hl, k⟩ := h
  unfold a__law_keep
  walk_at "st"
  walk_at "aw"
  refine ⟨.tup ws, ws, rfl, .inl rfl, hl, ?_⟩
  walk_at "aw"
  refine s_kLst rfl ⟨.inl rfl, loop_at (fun i s' => ∃ (st' : List Str) (fo : List D) (x4 : Option Sl) (j : Nat) (ρ : List Res), s' = ⟨[some (.dat (.tup ws)), some (.dat (.tup (st'.map .str))), some (.dat (.dct kvs)), some (.res j), x4], ρ⟩ ∧ ρ[j]? = some (.lst fo) ∧ fo.length ≤ i ∧
    (∀ x ∈ fo, Act4 kvs x) ∧ ρ[1]? = some (.lst ws.reverse) ∧
    fo.reverse ++ (siftR (kwOf kvs) (ws.reverse.drop i) st').1 = (siftR (kwOf kvs) ws.reverse st).1) ⟨st, [], none, 0, _, rfl, rfl, Nat.le_refl _, (fun x h => nomatch h), rfl, rfl⟩ ?_ ?_⟩
  · rintro i d s' N hd hN ⟨st', fo, x4, j, ρ, rfl, hj, hfl, hfx, h1r, h1⟩
    have hA := hx d (List.mem_reverse.mp (List.mem_of_getElem? hd))
    have hi : i < ws.reverse.length := (List.getElem?_eq_some_iff.mp hd).1
    rw [List.length_reverse] at hi
    rw [rev_at _ hd] at h1
    obtain ⟨g, s, a, f, rfl, hs⟩ := id hA
    walk_at "aw"
    refine s_inQ rfl rfl rfl (flatZ st') ?_
    rw [if_neg Bool.false_ne_true, inZ]
    walk_at "aw"
    refine q_dec (fun h3 => ?_) (fun h3 => ?_)
    · walk_at "aw"
      refine s_addL (l := [.tup [.str g, .str s, a, .tup f]]) (l' := fo) ?_ ?_ ?_ ?_
      · rw [nrm_lst (last_get _ _)]; exact lstOf_res (last_get _ _)
      · rw [nrm_lst (get_app hj)]; exact lstOf_res (get_app hj)
      · rw [List.length_singleton]; exact sz1m (by omega)
      have hj2 : (ρ ++ [Res.lst [D.tup [D.str g, D.str s, a, D.tup f]]] ++ [Res.lst ([D.tup [D.str g, D.str s, a, D.tup f]] ++ fo)])[(ρ ++ [Res.lst [D.tup [D.str g, D.str s, a, D.tup f]]]).length]? = some (.lst ([D.tup [D.str g, D.str s, a, D.tup f]] ++ fo)) := last_get _ _
      have h12 : (ρ ++ [Res.lst [D.tup [D.str g, D.str s, a, D.tup f]]] ++ [Res.lst ([D.tup [D.str g, D.str s, a, D.tup f]] ++ fo)])[1]? = some (.lst ws.reverse) := get_app (get_app h1r)
      revert hj2 h12
      generalize (ρ ++ [Res.lst [D.tup [D.str g, D.str s, a, D.tup f]]] ++ [Res.lst ([D.tup [D.str g, D.str s, a, D.tup f]] ++ fo)]) = ρ2
      generalize (ρ ++ [Res.lst [D.tup [D.str g, D.str s, a, D.tup f]]]).length = j2
      intro hj2 h12
      walk_at "aw"
      refine ⟨_, st', kvs, rfl, hA, ?_⟩
      walk_at "aw"
      refine ⟨.inl h12, hN _ ⟨_, _, _, j2, ρ2, rfl, hj2, ?_, ?_, h12, ?_⟩⟩
      · rw [List.length_append, List.length_singleton]; omega
      · intro x hm
        rcases List.mem_append.mp hm with hm | hm
        · rw [List.mem_singleton.mp hm]; exact hA
        · exact hfx x hm
      · rw [← h1]
        show ([D.tup [D.str g, D.str s, a, D.tup f]] ++ fo).reverse ++ _ = fo.reverse ++ ((if g ∈ st' then _ else []) ++ _)
        rw [if_pos h3, List.reverse_append, List.append_assoc]
        rfl
    · walk_at "aw"
      refine ⟨.inl h1r, hN _ ⟨st', fo, _, j, ρ, rfl, hj, by omega, hfx, h1r, ?_⟩⟩
      rw [← h1]
      show _ = fo.reverse ++ ((if g ∈ st' then _ else []) ++ _)
      rw [if_neg h3, below_no (show ¬ g ∈ st' from h3)]
      rfl
  · rintro s' ⟨st', fo, x4, j, ρ, rfl, hj, hfl, hfx, h1r, h1⟩
    rw [List.drop_length] at h1
    have h1' : fo.reverse = (siftR (kwOf kvs) ws.reverse st).1 := by rw [← h1]; exact (List.append_nil _).symm
    walk_at "aw"
    rw [nrm_lst hj, nrm_lst hj]
    refine s_tupL (lsOf_res hj) ?_
    walk_at "aw"
    have e : fo = keepD (kwOf kvs) ws st := by unfold keepD; rw [← h1', List.reverse_reverse]
    rw [e]
    exact k
theorem pure__law_keep {K : PySem.W.Frag} {A : Ad} (TX : Caught K A) {vs : List V} {H : Hp} {Q : VK} {E : XK} (h : sp__law_keep K A vs H Q E) : t__law_keep K A { nx := fun _ H' => Q .non H', rt := Q } (L2.start ["_law_word", "_law_states", "_law_kinds", "_law_kept", "_law_half"] vs) H :=
  fn_ok (a := fun X => a__law_keep A) (fun w0 X hX => sim__law_keep TX hX) (fun ags R X hF => ax__law_keep hF) h
def F__law_split (_ : Ad) : AF := fun ags R _ => ∃ (w : D) (ws : List D) (kvs : List (Key × D)), ags = [.dat w] ∧ WordD w ws ∧ (∀ x ∈ ws, Act4 kvs x) ∧ ws.length ≤ 1000000 ∧ R (.res (.lst (ws.flatMap halvesD))) []
def t__law_split (K : PySem.W.Frag) (A : Ad) : TS :=
  (tSeq (tAsg (tLst tNil) (gName 1))
  (tSeq (tFor (iAny K (tVar 0)) (gName 2)
  (tAsg (tOp (oAddX K) (tVar 1) (tCall (sp__law_halves K A) [] E0 (tCons (tVar 2) tNil))) (gName 1)))
  (tRet (tVar 1))))
abbrev sp__law_split (K : PySem.W.Frag) (A : Ad) : Sp := Conc K (F__law_split A)
def a__law_split (A : Ad) : ATS :=
  (aSeq (aAsg (aLst aNil) (aName 1))
  (aSeq (aFor (iAnyA (aVar 0)) (aName 2)
  (aAsg (aOp fAdd (aVar 1) (aCB (aFn [false] (F__law_halves A) X0) (aCons (aVar 2) aNil))) (aName 1)))
  (aRet (aVar 1))))
theorem sim__law_split {K : PySem.W.Frag} {A : Ad} (TX : Caught K A) {w0 : W} {E : XK} {X : XA} (hX : XOk K w0 E X) : SimS K w0 (t__law_split K A) (a__law_split A) :=
  (sim_seq (sim_asg (sim_lst sim_nil) sim_name)
  (sim_seq (sim_for si_var sim_name
  (sim_asg (sim_op so_add sim_var (sim_call xok0 (sim_cons sim_var sim_nil))) sim_name))
  (sim_ret sim_var)))
theorem ax__law_split {A : Ad} {ags : List Ag} {R : Ag → List Res → Prop} {X : XA} (h : F__law_split A ags R X) : a__law_split A (aEnds (agS 0 ags).2.length R) (aStart 3 ags) := by
  obtain ⟨w, ws, kvs, rfl, hw, hx, hl, k⟩ := h
  unfold a__law_split
  walk_at "st"
  walk_at "aw"
  have core : ∀ (gd : List Res → Prop), (∀ ρ, gd ρ) → gd [.lst []] ∧ aLoop (aName 2) (aAsg (aOp fAdd (aVar 1) (aCB (aFn [false] (F__law_halves A) X0) (aCons (aVar 2) aNil))) (aName 1)) gd
      ⟨fun st' => aRet (aVar 1) (aEnds 0 R) st', (aEnds 0 R).rt, (aEnds 0 R).bk, (aEnds 0 R).ct⟩ ws ⟨[some (.dat w), some (.res 0), none], [.lst []]⟩ := by
    intro gd hg
    refine ⟨hg _, loop_at (fun i s' => ∃ (x2 : Option Sl) (j : Nat) (ρ : List Res), s' = ⟨[some (.dat w), some (.res j), x2], ρ⟩ ∧ ρ[j]? = some (.lst ((ws.take i).flatMap halvesD))) ⟨none, 0, _, rfl, rfl⟩ ?_ ?_⟩
    · rintro i d s' N hd hN ⟨x2, j, ρ, rfl, hj⟩
      obtain ⟨g, s, a, f, rfl, hs⟩ := hx d (List.mem_of_getElem? hd)
      walk_at "aw"
      refine ⟨g, s, a, f, rfl, ?_⟩
      walk_at "aw"
      have hfl : ∀ i, ((ws.take i).flatMap halvesD).length ≤ 2000000 := fun i => by
        have h1 : ((ws.take i).flatMap halvesD).length ≤ _ := flat_len (k := 2) fun x _ => halves_len x
        rw [List.length_take] at h1
        omega
      refine s_addL (l := (ws.take i).flatMap halvesD) (l' := halvesD (.tup [.str g, .str s, a, .tup f])) ?_ ?_ ?_ ?_
      · rw [nrm_lst hj, nrm_lst (get_app hj)]; exact lstOf_res (get_app hj)
      · exact lstOf_res (last_get _ _)
      · have h1 := hfl i
        have h2 := halves_len (.tup [.str g, .str s, a, .tup f])
        exact Nat.le_trans (show _ ≤ 2000002 by omega) (by decide)
      have hj2 := last_get (ρ ++ [Res.lst (halvesD (.tup [.str g, .str s, a, .tup f]))]) (Res.lst ((ws.take i).flatMap halvesD ++ halvesD (.tup [.str g, .str s, a, .tup f])))
      rw [← flat_at _ _ hd] at hj2
      rw [← flat_at _ _ hd]
      revert hj2
      generalize (ρ ++ [Res.lst (halvesD (.tup [.str g, .str s, a, .tup f]))] ++ [Res.lst ((ws.take (i + 1)).flatMap halvesD)]) = ρ2
      generalize (ρ ++ [Res.lst (halvesD (.tup [.str g, .str s, a, .tup f]))]).length = j2
      intro hj2
      walk_at "aw"
      exact ⟨hg _, hN _ ⟨_, j2, ρ2, rfl, hj2⟩⟩
    · rintro s' ⟨x2, j, ρ, rfl, hj⟩
      walk_at "aw"
      rw [nrm_lst hj]
      rw [List.take_length] at hj
      exact ⟨Nat.zero_le _, _, hj, k⟩
  rcases hw with rfl | rfl
  · exact s_iVT rfl rfl (core (fun _ => True) (fun _ => trivial))
  · exact s_iVL rfl (x := .dat (.lst ws)) rfl rfl (core _ (fun _ => trivial))
theorem pure__law_split {K : PySem.W.Frag} {A : Ad} (TX : Caught K A) {vs : List V} {H : Hp} {Q : VK} {E : XK} (h : sp__law_split K A vs H Q E) : t__law_split K A { nx := fun _ H' => Q .non H', rt := Q } (L2.start ["_law_word", "_law_rows", "_law_action_here"] vs) H :=
  fn_ok (a := fun X => a__law_split A) (fun w0 X hX => sim__law_split TX hX) (fun ags R X hF => ax__law_split hF) h
def R__law_normal (A : Ad) : Nat → AF
  | 0 => fun _ _ _ => False
  | n + 1 => fun ags R _ => ∃ (w : D) (ws : List D) (kvs : List (Key × D)) (c : Nat), ags = [.dat w, .dat (.dct kvs)] ∧ WordD w ws ∧ (∀ x ∈ ws, ActD kvs c n x) ∧ OkN (kwOf kvs) n ws ∧ R (.dat (.tup (normalD (kwOf kvs) (n + 1) ws))) []
abbrev F__law_normal (A : Ad) : AF := R__law_normal A 4
def t__law_normal (K : PySem.W.Frag) (A : Ad) (rec : Sp) : TS :=
  (tSeq (tAsg (tLst tNil) (gName 2))
  (tSeq (tFor (iAny K (tCall (sp__law_split K A) [] E0 (tCons (tVar 0) tNil))) (gName 3)
  (tSeq (tAsg (tCall (sp__law_keep K A) [] E0 (tCons (tCall rec [] E0 (tCons (tOp (oIxX K) (tVar 3) (tC (.int 3))) (tCons (tVar 1) tNil))) (tCons (tTup (tCons (tC (.str "done")) tNil)) (tCons (tVar 1) tNil)))) (gName 4))
  (tSeq (tAsg (tC (.int 0)) (gName 5))
  (tSeq (tFor (iRng1 (tCons (tCB (cLenX K) (tCons (tVar 4) tNil)) tNil)) (gName 6)
  (tIfS (tAnd (tTest (tOp (oEq K) (tVar 5) (tVar 6))) (tTest (tOp (oEq K) (tOp (oIxX K) (tOp (oIxX K) (tVar 4) (tVar 6)) (tC (.int 0))) (tC (.str "done")))))
  (tAsg (tOp (oAddX K) (tVar 6) (tC (.int 1))) (gName 5))
  tNext))
  (tAsg (tOp (oAddX K) (tOp (oAddX K) (tVar 2) (tCB (cList K) (tCons (tSl (oSlX K) (tVar 4) tNoPart (tPart (tVar 5))) tNil))) (tLst (tCons (tTup (tCons (tOp (oIxX K) (tVar 3) (tC (.int 0))) (tCons (tOp (oIxX K) (tVar 3) (tC (.int 1))) (tCons (tOp (oIxX K) (tVar 3) (tC (.int 2))) (tCons (tSl (oSlX K) (tVar 4) (tPart (tVar 5)) tNoPart) tNil))))) tNil))) (gName 2))))))
  (tRet (tCB (cTupX K) (tCons (tVar 2) tNil)))))
abbrev sp__law_normal (K : PySem.W.Frag) (A : Ad) : Sp := Conc K (F__law_normal A)
abbrev rec_law_normal (K : PySem.W.Frag) (A : Ad) (n : Nat) : Sp := Conc K (R__law_normal A n)
def a__law_normal (A : Ad) (rec : AF) : ATS :=
  (aSeq (aAsg (aLst aNil) (aName 2))
  (aSeq (aFor (iLstA (aCB (aFn [false] (F__law_split A) X0) (aCons (aVar 0) aNil))) (aName 3)
  (aSeq (aAsg (aCB (aFn [false, false, false] (F__law_keep A) X0) (aCons (aCB (aFn [false, false] rec X0) (aCons (aOp fIx (aVar 3) (aC (.int 3))) (aCons (aVar 1) aNil))) (aCons (aTup (aCons (aC (.str "done")) aNil)) (aCons (aVar 1) aNil)))) (aName 4))
  (aSeq (aAsg (aC (.int 0)) (aName 5))
  (aSeq (aFor (iRng1A (aCons (aCB fLen (aCons (aVar 4) aNil)) aNil)) (aName 6)
  (aIfS (aAnd (aTest (aOp (fEq false) (aVar 5) (aVar 6))) (aTest (aOp (fEq false) (aOp fIx (aOp fIx (aVar 4) (aVar 6)) (aC (.int 0))) (aC (.str "done")))))
  (aAsg (aOp fAdd (aVar 6) (aC (.int 1))) (aName 5))
  aNext))
  (aAsg (aOp fAdd (aOp fAdd (aVar 2) (aCB fList (aCons (aSl fSl (aVar 4) aNoPart (aPart (aVar 5))) aNil))) (aLst (aCons (aTup (aCons (aOp fIx (aVar 3) (aC (.int 0))) (aCons (aOp fIx (aVar 3) (aC (.int 1))) (aCons (aOp fIx (aVar 3) (aC (.int 2))) (aCons (aSl fSl (aVar 4) (aPart (aVar 5)) aNoPart) aNil))))) aNil))) (aName 2))))))
  (aRet (aCB fTuple (aCons (aVar 2) aNil)))))
theorem sim__law_normal {K : PySem.W.Frag} {A : Ad} (TX : Caught K A) (rec : AF) {w0 : W} {E : XK} {X : XA} (hX : XOk K w0 E X) : SimS K w0 (t__law_normal K A (Conc K rec)) (a__law_normal A rec) :=
  (sim_seq (sim_asg (sim_lst sim_nil) sim_name)
  (sim_seq (sim_for (si_lst (sim_call xok0 (sim_cons sim_var sim_nil))) sim_name
  (sim_seq (sim_asg (sim_call xok0 (sim_cons (sim_call xok0 (sim_cons (sim_op so_ix sim_var (sim_c fun w => .int _)) (sim_cons sim_var sim_nil))) (sim_cons (sim_tup (sim_cons (sim_c fun w => .str _) sim_nil)) (sim_cons sim_var sim_nil)))) sim_name)
  (sim_seq (sim_asg (sim_c fun w => .int _) sim_name)
  (sim_seq (sim_for (si_rng1 (sim_cons (sim_cb sc_len (sim_cons sim_var sim_nil)) sim_nil)) sim_name
  (sim_ifS (sim_and (sim_test (sim_op so_eq sim_var sim_var)) (sim_test (sim_op so_eq (sim_op so_ix (sim_op so_ix sim_var sim_var) (sim_c fun w => .int _)) (sim_c fun w => .str _))))
  (sim_asg (sim_op so_add sim_var (sim_c fun w => .int _)) sim_name)
  sim_next))
  (sim_asg (sim_op so_add (sim_op so_add sim_var (sim_cb sc_list (sim_cons (sim_sl sl_X sim_var sim_noPart (sim_part sim_var)) sim_nil))) (sim_lst (sim_cons (sim_tup (sim_cons (sim_op so_ix sim_var (sim_c fun w => .int _)) (sim_cons (sim_op so_ix sim_var (sim_c fun w => .int _)) (sim_cons (sim_op so_ix sim_var (sim_c fun w => .int _)) (sim_cons (sim_sl sl_X sim_var (sim_part sim_var) sim_noPart) sim_nil))))) sim_nil))) sim_name)))))
  (sim_ret (sim_cb sc_tuple (sim_cons sim_var sim_nil)))))
theorem ax__law_normal {A : Ad} {n : Nat} {ags : List Ag} {R : Ag → List Res → Prop} {X : XA} (h : R__law_normal A (n + 1) ags R X) : a__law_normal A (R__law_normal A n) (aEnds (agS 0 ags).2.length R) (aStart 7 ags) := by
  obtain ⟨w, ws, kvs, c, rfl, hw, hx, hok, k⟩ := h
  have hl := hok.len
  unfold a__law_normal
  walk_at "st"
  walk_at "aw"
  refine ⟨w, ws, kvs, rfl, hw, fun x hm => (hx x hm).four, by omega, ?_⟩
  walk_at "aw"
  have hall : ∀ h ∈ ws.flatMap halvesD, ActD kvs c n h := fun h hm => by
    obtain ⟨y, hy, hm⟩ := List.mem_flatMap.mp hm
    exact (halves_act (hx y hy) h hm).1
  have hlen := OkN.nlen hx hok
  refine s_kLst rfl ⟨.inl rfl, loop_at (fun i s' => ∃ (x3 x4 x5 x6 : Option Sl) (j : Nat) (ρ : List Res), s' = ⟨[some (.dat w), some (.dat (.dct kvs)), some (.res j), x3, x4, x5, x6], ρ⟩ ∧ ρ[j]? = some (.lst (((ws.flatMap halvesD).take i).flatMap (stepN (kwOf kvs) n))) ∧ ρ[1]? = some (.lst (ws.flatMap halvesD))) ⟨none, none, none, none, 0, _, rfl, rfl, rfl⟩ ?_ ?_⟩
  · rintro i d s' N hd hN ⟨x3, x4, x5, x6, j, ρ, rfl, hj, h1r⟩
    have hA := hall d (List.mem_of_getElem? hd)
    cases n with
    | zero => exact hA.elim
    | succ n =>
      obtain ⟨g, s, a, f, rfl, hg, hs, ha, hf, hxf⟩ := hA
      have hokf : OkN (kwOf kvs) n f := hok.sub hx (List.mem_of_getElem? hd)
      have hstep : ((((ws.flatMap halvesD).take i).flatMap (stepN (kwOf kvs) (n + 1))) ++ stepN (kwOf kvs) (n + 1) (.tup [.str g, .str s, a, .tup f])).length ≤ 500000 := by
        rw [← flat_at _ _ hd]
        have h1 : (((ws.flatMap halvesD).take (i + 1)).flatMap (stepN (kwOf kvs) (n + 1))).length ≤ ((ws.flatMap halvesD).flatMap (stepN (kwOf kvs) (n + 1))).length := flat_le
        have h2 : ((ws.flatMap halvesD).flatMap (stepN (kwOf kvs) (n + 1))).length = (normalD (kwOf kvs) (n + 1 + 1) ws).length := rfl
        omega
      have hn2 := OkN.nlen hxf hokf
      walk_at "aw"
      refine ⟨.tup f, f, kvs, c, rfl, .inl rfl, hxf, hokf, ?_⟩
      walk_at "aw"
      refine ⟨_, ["done"], kvs, rfl, fun x hm => ((normal_act (kw := kwOf kvs) (c' := c + c * bnd c n) (Nat.le_add_right _ _) hxf (Nat.le_add_left _ _)) x hm).1.four, by omega, ?_⟩
      have hKs : ∀ x ∈ keepD (kwOf kvs) (normalD (kwOf kvs) (n + 1) f) ["done"], Act4 kvs x := fun x hm =>
        (normal_act (kw := kwOf kvs) (c' := c + c * bnd c n) (Nat.le_add_right _ _) hxf (Nat.le_add_left _ _) x (keep_sub x hm)).1.four
      have hK : stepN (kwOf kvs) (n + 1) (.tup [.str g, .str s, a, .tup f]) = (keepD (kwOf kvs) (normalD (kwOf kvs) (n + 1) f) ["done"]).take (twD (keepD (kwOf kvs) (normalD (kwOf kvs) (n + 1) f) ["done"])) ++ [.tup [.str g, .str s, a, .tup ((keepD (kwOf kvs) (normalD (kwOf kvs) (n + 1) f) ["done"]).drop (twD (keepD (kwOf kvs) (normalD (kwOf kvs) (n + 1) f) ["done"])))]] := rfl
      have hKl : (keepD (kwOf kvs) (normalD (kwOf kvs) (n + 1) f) ["done"]).length ≤ (normalD (kwOf kvs) (n + 1) f).length := keep_len
      rw [hK] at hstep
      have hnx := flat_at (stepN (kwOf kvs) (n + 1)) _ hd
      rw [hK] at hnx
      revert hKs hstep hnx hKl
      generalize keepD (kwOf kvs) (normalD (kwOf kvs) (n + 1) f) ["done"] = K
      intro hstep hKs hKl hnx
      rw [List.length_append, List.length_append, List.length_singleton] at hstep
      walk_at "aw"
      refine s_kRng rfl (by omega) (by omega) ⟨trivial, loop_at (fun k s' => ∃ x6 : Option Sl, s' = ⟨[some (.dat w), some (.dat (.dct kvs)), some (.res j), some (.dat (.tup [.str g, .str s, a, .tup f])), some (.dat (.tup K)), some (.dat (.int (min k (twD K) : Nat))), x6], ρ⟩) ⟨x6, by rw [Nat.zero_min]; rfl⟩ ?_ ?_⟩
      · rintro i2 d2 s2 N2 hd2 hN2 ⟨y6, rfl⟩
        obtain ⟨hi2, rfl⟩ := rng_get hd2
        have hi2' : i2 < K.length := by omega
        obtain ⟨g', s1, a1, f1, e1, _⟩ := hKs K[i2] (List.getElem_mem hi2')
        walk_at "aw"
        rw [if_neg Bool.false_ne_true]
        refine q_dec (fun h5 => ?_) (fun h5 => ?_)
        · have hle : i2 ≤ twD K := by omega
          have hat := tw_lt (List.getElem?_eq_getElem hi2') hle
          rw [e1] at hat
          walk_at "aw"
          refine s_ixQ (l := K) rfl rfl (at_of (by omega) (by rw [show ((0 : Int) + (i2 : Int)).toNat = i2 by omega]; exact List.getElem?_eq_getElem hi2')) ?_
          rw [e1]
          walk_at "aw"
          rw [if_neg Bool.false_ne_true]
          refine q_dec (fun h6 => ?_) (fun h6 => ?_)
          · walk_at "aw"
            have h7 := hat.1 h6
            have h8 : ((0 : Int) + (i2 : Int) + 1) = ((min (i2 + 1) (twD K) : Nat) : Int) := by omega
            rw [h8]
            exact ⟨trivial, hN2 _ ⟨_, rfl⟩⟩
          · walk_at "aw"
            have h7 := hat.2 h6
            refine ⟨trivial, hN2 _ ⟨some (.dat (.int (0 + (i2 : Int)))), ?_⟩⟩
            rw [show min (i2 + 1) (twD K) = min i2 (twD K) by omega]
        · walk_at "ai"
          refine ⟨trivial, hN2 _ ⟨some (.dat (.int (0 + (i2 : Int)))), ?_⟩⟩
          rw [show min (i2 + 1) (twD K) = min i2 (twD K) by omega]
      · rintro s2 ⟨y6, rfl⟩
        have htw := tw_le K
        have hl' : (rngD 0 (K.length : Int).toNat).length = K.length := by unfold rngD; simp
        rw [hl', show min K.length (twD K) = twD K by omega]
        walk_at "aw"
        refine s_slT rfl ?_
        rw [cut_take (by omega), Int.toNat_natCast]
        walk_at "aw"
        refine s_list rfl ?_
        refine s_addL (l := ((ws.flatMap halvesD).take i).flatMap (stepN (kwOf kvs) (n + 1))) (l' := K.take (twD K)) ?_ ?_ ?_ ?_
        · rw [nrm_lst hj, nrm_lst (get_app hj)]; exact lstOf_res (get_app hj)
        · exact lstOf_res (last_get _ _)
        · exact sz1m (by omega)
        have hj2 := last_get (ρ ++ [Res.lst (K.take (twD K))]) (Res.lst (((ws.flatMap halvesD).take i).flatMap (stepN (kwOf kvs) (n + 1)) ++ K.take (twD K)))
        have h12 : (ρ ++ [Res.lst (K.take (twD K))] ++ [Res.lst (((ws.flatMap halvesD).take i).flatMap (stepN (kwOf kvs) (n + 1)) ++ K.take (twD K))])[1]? = some (.lst (ws.flatMap halvesD)) := get_app (get_app h1r)
        revert hj2 h12
        generalize (ρ ++ [Res.lst (K.take (twD K))] ++ [Res.lst (((ws.flatMap halvesD).take i).flatMap (stepN (kwOf kvs) (n + 1)) ++ K.take (twD K))]) = ρ2
        generalize (ρ ++ [Res.lst (K.take (twD K))]).length = j2
        intro hj2 h12
        walk_at "aw"
        refine s_slT rfl ?_
        rw [cut_drop (by omega), Int.toNat_natCast]
        walk_at "aw"
        refine s_addL (l := ((ws.flatMap halvesD).take i).flatMap (stepN (kwOf kvs) (n + 1)) ++ K.take (twD K)) (l' := [D.tup [D.str g, D.str s, a, D.tup (K.drop (twD K))]]) ?_ ?_ ?_ ?_
        · rw [nrm_lst (get_app hj2)]; exact lstOf_res (get_app hj2)
        · exact lstOf_res (last_get _ _)
        · rw [List.length_append, List.length_singleton]; exact sz1m (by omega)
        have hj3 := last_get (ρ2 ++ [Res.lst [D.tup [D.str g, D.str s, a, D.tup (K.drop (twD K))]]]) (Res.lst (((ws.flatMap halvesD).take i).flatMap (stepN (kwOf kvs) (n + 1)) ++ K.take (twD K) ++ [D.tup [D.str g, D.str s, a, D.tup (K.drop (twD K))]]))
        have h13 : (ρ2 ++ [Res.lst [D.tup [D.str g, D.str s, a, D.tup (K.drop (twD K))]]] ++ [Res.lst (((ws.flatMap halvesD).take i).flatMap (stepN (kwOf kvs) (n + 1)) ++ K.take (twD K) ++ [D.tup [D.str g, D.str s, a, D.tup (K.drop (twD K))]])])[1]? = some (.lst (ws.flatMap halvesD)) := get_app (get_app h12)
        revert hj3 h13
        generalize (ρ2 ++ [Res.lst [D.tup [D.str g, D.str s, a, D.tup (K.drop (twD K))]]] ++ [Res.lst (((ws.flatMap halvesD).take i).flatMap (stepN (kwOf kvs) (n + 1)) ++ K.take (twD K) ++ [D.tup [D.str g, D.str s, a, D.tup (K.drop (twD K))]])]) = ρ3
        generalize (ρ2 ++ [Res.lst [D.tup [D.str g, D.str s, a, D.tup (K.drop (twD K))]]]).length = j3
        intro hj3 h13
        walk_at "aw"
        refine ⟨.inl h13, hN _ ⟨_, _, _, _, j3, ρ3, rfl, ?_, h13⟩⟩
        rw [hnx, ← List.append_assoc]
        exact hj3
  · rintro s' ⟨x3, x4, x5, x6, j, ρ, rfl, hj, h1r⟩
    walk_at "aw"
    rw [nrm_lst hj, nrm_lst hj]
    refine s_tupL (lsOf_res hj) ?_
    walk_at "aw"
    rw [List.take_length]
    exact k
theorem pure__law_normal {K : PySem.W.Frag} {A : Ad} {n : Nat} (TX : Caught K A) {vs : List V} {H : Hp} {Q : VK} {E : XK} (h : rec_law_normal K A (n + 1) vs H Q E) : t__law_normal K A (rec_law_normal K A n) { nx := fun _ H' => Q .non H', rt := Q } (L2.start ["_law_word", "_law_kinds", "_law_rows", "_law_half", "_law_inner", "_law_many", "_law_k"] vs) H :=
  fn_ok (a := fun X => a__law_normal A (R__law_normal A n)) (fun w0 X hX => sim__law_normal TX (R__law_normal A n) hX) (fun ags R X hF => ax__law_normal hF) h
theorem no_law_normal {K : PySem.W.Frag} {A : Ad} {vs : List V} {H : Hp} {Q : VK} {E : XK} (z : rec_law_normal K A 0 vs H Q E) : False := by
  obtain ⟨_, _, _, _, _, _, hf, _⟩ := z
  exact hf

theorem at_mem {α : Type} {l : List α} {i : Int} (h0 : 0 ≤ i) (h1 : i < l.length) : ∃ d ∈ l, atI l i = some d := by
  have hl : i.toNat < l.length := by omega
  exact ⟨l[i.toNat], List.getElem_mem hl, at_of h0 (List.getElem?_eq_getElem hl)⟩
theorem s_ixM {x y : Sl} {ρ : List Res} {Kc : AK} {l : List D} {j : Int} (e1 : seqOf ρ x = some l) (e2 : y = .dat (.int j)) (h0 : 0 ≤ j) (h1 : j < l.length) (h : ∀ d ∈ l, Kc (.dat d) ρ) : fIx x y ρ Kc := by
  obtain ⟨d, hd, e⟩ := at_mem h0 h1
  exact s_ixQ e1 e2 e (h d hd)
theorem NameS.str {z : Str} (h : NameS z) : z.length ≤ 1000 ∧ PyData.strOk z = true := ⟨by have := h.le; omega, h.ok⟩
theorem KindD.rough {d : D} (h : KindD d) : RoughD d := by
  cases h with
  | plain => exact .mk (by decide +kernel) (fun x hx => nomatch hx) (by decide) (fun _ x hx => nomatch hx) (fun _ x hx => nomatch hx)
  | num hw h0 h1 =>
    refine .mk (by rcases hw with rfl | rfl <;> decide +kernel) (fun x hx => .inl ⟨_, List.mem_singleton.mp hx⟩) (by simp) (fun _ x hx => ⟨_, (List.singleton_inj.mp hx).symm⟩) (fun hs => ?_)
    rcases hw with rfl | rfl <;> exact absurd hs (by decide +kernel)
  | nam hw hz =>
    refine .mk (by rcases hw with rfl | rfl <;> decide +kernel) (fun x hx => .inr ⟨_, List.mem_singleton.mp hx, hz.str⟩) (by simp) (fun hs => ?_) (fun _ x hx => ⟨_, (List.singleton_inj.mp hx).symm⟩)
    rcases hw with rfl | rfl <;> exact absurd hs (by decide +kernel)

/-! ### what is drawn -/
theorem st8_inj {a b : List Nat} (h : St8 a = St8 b) : a = b := by
  have := congrArg (fun z : Str => z.cps.toList) h
  exact this
theorem cut11 (l : List Nat) : cutS (St8 l) none (some 11) = St8 (l.take 11) := by
  have h : HT.sIx (St8 l).length (St8 l).length (some 11) = min 11 l.length := HT.sIx_nat (St8 l).length (St8 l).length 11
  unfold cutS
  rw [h]
  show (⟨((l.drop 0).take (min 11 l.length - 0)).toArray⟩ : Str) = ⟨(l.take 11).toArray⟩
  rw [List.drop_zero, Nat.sub_zero, ← List.take_take, List.take_length]
/-- the candidate with the sign c -/
theorem cand_name {l : List Nat} {c : Nat} (h : NameL l) (hc : c ∈ lets ++ digs) : NameL (l.take 11 ++ [c]) := by
  obtain ⟨⟨d, r, e, hd⟩, ha, hl⟩ := h
  refine ⟨⟨d, r.take 10 ++ [c], by rw [e]; rfl, hd⟩, fun y hy => ?_, ?_⟩
  · rcases List.mem_append.mp hy with hy | hy
    · exact ha y (List.mem_of_mem_take hy)
    · rw [List.mem_singleton.mp hy]; exact hc
  · rw [List.length_append, List.length_take]
    show _ + 1 ≤ 12
    omega
theorem cand_inj {l : List Nat} {a b : Nat} (h : St8 (l.take 11 ++ [a]) = St8 (l.take 11 ++ [b])) : a = b := by
  have := st8_inj h
  have := List.append_cancel_left this
  injection this
theorem pig : ∀ {l us : List Str}, l.Nodup → (∀ x ∈ l, x ∈ us) → l.length ≤ us.length
  | [], _, _, _ => Nat.zero_le _
  | x :: l, us, nd, h => by
    have nd' := List.nodup_cons.mp nd
    have hx := h x List.mem_cons_self
    have := pig (l := l) (us := us.erase x) nd'.2 fun y hy => (List.mem_erase_of_ne (fun z : y = x => nd'.1 (by rw [← z]; exact hy))).mpr (h y (List.mem_cons_of_mem _ hy))
    have hl := List.length_erase_of_mem hx
    have hp := List.length_pos_of_mem hx
    rw [List.length_cons]
    omega
theorem of_st8 {z : Str} (h : NameS z) : ∃ l, z = St8 l ∧ NameL l := ⟨z.cps.toList, rfl, h⟩
def F__law_fresh (_ : Ad) : AF := fun ags R _ => ∃ (p : List D) (us : List Str), ags = [.res (.lst p), .res (.lst (us.map .str))] ∧ PoolD p ∧ us.length ≤ 20 ∧ ∀ (z : Str) (p' : List D), NameS z → z ∉ us → PoolD p' → R (.dat (.str z)) [.lst p', .lst (us.map .str)]
def t__law_fresh (K : PySem.W.Frag) (A : Ad) : TS :=
  (tSeq (tAsg (tCall (sp__law_name K A) [] E0 (tCons (tVar 0) tNil)) (gName 2))
  (tSeq (tIfS (tTest (tOp (oNotInX K) (tVar 2) (tVar 1)))
  (tRet (tVar 2))
  tNext)
  (tSeq (tFor (iAny K (tOp (oAddX K) (tCall (sp__law_letters K A) [] E0 tNil) (tC (.str "0123456789")))) (gName 3)
  (tIfS (tTest (tOp (oNotInX K) (tOp (oAddX K) (tSl (oSlX K) (tVar 2) tNoPart (tPart (tC (.int 11)))) (tVar 3)) (tVar 1)))
  (tRet (tOp (oAddX K) (tSl (oSlX K) (tVar 2) tNoPart (tPart (tC (.int 11)))) (tVar 3)))
  tNext))
  (tRet (tVar 2)))))
abbrev sp__law_fresh (K : PySem.W.Frag) (A : Ad) : Sp := Conc K (F__law_fresh A)
def a__law_fresh (A : Ad) : ATS :=
  (aSeq (aAsg (aCB (aFn [true] (F__law_name A) X0) (aCons (aVar 0) aNil)) (aName 2))
  (aSeq (aIfS (aTest (aOp (fIn true) (aVar 2) (aVar 1)))
  (aRet (aVar 2))
  aNext)
  (aSeq (aForT (iStrA (aOp fAdd (aCB (aFn [] (F__law_letters A) X0) aNil) (aC (.str "0123456789")))) (aName 3)
  (aIfS (aTest (aOp (fIn true) (aOp fAdd (aSl fSl (aVar 2) aNoPart (aPart (aC (.int 11)))) (aVar 3)) (aVar 1)))
  (aRet (aOp fAdd (aSl fSl (aVar 2) aNoPart (aPart (aC (.int 11)))) (aVar 3)))
  aNext))
  (aRet (aVar 2)))))
theorem sim__law_fresh {K : PySem.W.Frag} {A : Ad} (TX : Caught K A) {w0 : W} {E : XK} {X : XA} (hX : XOk K w0 E X) : SimS K w0 (t__law_fresh K A) (a__law_fresh A) :=
  (sim_seq (sim_asg (sim_call xok0 (sim_cons sim_var sim_nil)) sim_name)
  (sim_seq (sim_ifS (sim_test (sim_op so_notIn sim_var sim_var))
  (sim_ret sim_var)
  sim_next)
  (sim_seq (sim_forT (si_str (sim_op so_add (sim_call xok0 sim_nil) (sim_c fun w => .str _))) sim_name
  (sim_ifS (sim_test (sim_op so_notIn (sim_op so_add (sim_sl sl_X sim_var sim_noPart (sim_part (sim_c fun w => .int _))) sim_var) sim_var))
  (sim_ret (sim_op so_add (sim_sl sl_X sim_var sim_noPart (sim_part (sim_c fun w => .int _))) sim_var))
  sim_next))
  (sim_ret sim_var))))
theorem ax__law_fresh {A : Ad} {ags : List Ag} {R : Ag → List Res → Prop} {X : XA} (h : F__law_fresh A ags R X) : a__law_fresh A (aEnds (agS 0 ags).2.length R) (aStart 4 ags) := by
  obtain ⟨p, us, rfl, hp, hu, k⟩ := h
  unfold a__law_fresh
  walk_at "st"
  walk_at "aw"
  refine ⟨p, rfl, hp, fun z p1 hz hp1 => ?_⟩
  obtain ⟨l, rfl, hl⟩ := of_st8 hz
  walk_at "aw"
  refine s_inQ rfl rfl rfl (flatZ us) ?_
  rw [if_pos rfl, inZ]
  walk_at "aw"
  refine q_ndec (fun h1 => ?_) (fun h1 => ?_)
  · walk_at "aw"
    exact k _ _ hz h1 hp1
  walk_at "aw"
  refine ⟨rfl, ?_⟩
  walk_at "aw"
  rw [digs_is]
  refine s_addS rfl rfl (by decide) ?_
  rw [st8_app]
  refine s_kStr rfl ⟨trivial, ?_⟩
  refine loopT (fun i s' => ∃ x3 : Option Sl, s' = ⟨[some (.res 0), some (.res 1), some (.dat (.str (St8 l))), x3], [.lst p1, .lst (us.map .str)]⟩ ∧ ∀ m c, m < i → (lets ++ digs)[m]? = some c → St8 (l.take 11 ++ [c]) ∈ us) ⟨none, rfl, fun m c h => absurd h (Nat.not_lt_zero _)⟩ ?_ ?_
  · rintro i d s' N hd hN ⟨x3, rfl, hall⟩
    unfold chD at hd
    rw [st8_list, List.getElem?_map] at hd
    obtain ⟨c, hc, rfl⟩ := Option.map_eq_some_iff.mp hd
    have hcm : c ∈ lets ++ digs := List.mem_of_getElem? hc
    have hl12 : (St8 l).length ≤ sizeLine := by
      have := hl.len
      exact Nat.le_trans (show l.length ≤ 12 from this) (by decide)
    walk_at "aw"
    refine s_slS rfl hl12 ?_
    rw [cut11]
    walk_at "aw"
    refine s_addS (z := St8 (l.take 11)) (u := St8 [c]) rfl rfl ?_ ?_
    · rw [st8_len, st8_len, List.length_take]
      exact Nat.le_trans (show _ ≤ 12 by show min 11 l.length + 1 ≤ 12; omega) (by decide)
    rw [st8_app]
    walk_at "aw"
    refine s_inQ rfl rfl rfl (flatZ us) ?_
    rw [if_pos rfl, inZ]
    walk_at "aw"
    refine q_ndec (fun h2 => ?_) (fun h2 => ?_)
    · walk_at "aw"
      refine s_slS rfl hl12 ?_
      rw [cut11]
      walk_at "aw"
      refine s_addS (z := St8 (l.take 11)) (u := St8 [c]) rfl rfl ?_ ?_
      · rw [st8_len, st8_len, List.length_take]
        exact Nat.le_trans (show _ ≤ 12 by show min 11 l.length + 1 ≤ 12; omega) (by decide)
      rw [st8_app]
      exact k _ _ (cand_name hl hcm) h2 hp1
    · walk_at "aw"
      refine hN _ ⟨some (.dat (.str ⟨#[c]⟩)), rfl, fun m c' hm hc' => ?_⟩ trivial
      rcases Nat.lt_or_ge m i with h | h
      · exact hall m c' h hc'
      · have : m = i := by omega
        subst this
        rw [hc] at hc'
        cases hc'
        exact h2
  · rintro s' ⟨x3, rfl, hall⟩
    have nd : ((lets ++ digs).map fun c => St8 (l.take 11 ++ [c])).Nodup := List.pairwise_map.mpr ((show (lets ++ digs).Nodup by decide).imp fun {a b} ne e => ne (cand_inj e))
    have z := pig nd fun x hx => by
      obtain ⟨c, hc, rfl⟩ := List.mem_map.mp hx
      obtain ⟨m, hm, e⟩ := List.getElem_of_mem hc
      refine hall m c ?_ (by rw [List.getElem?_eq_getElem hm, e])
      exact hm
    rw [List.length_map] at z
    have : (lets ++ digs).length = 36 := rfl
    omega
theorem pure__law_fresh {K : PySem.W.Frag} {A : Ad} (TX : Caught K A) {vs : List V} {H : Hp} {Q : VK} {E : XK} (h : sp__law_fresh K A vs H Q E) : t__law_fresh K A { nx := fun _ H' => Q .non H', rt := Q } (L2.start ["_law_pool_here", "_law_used", "_law_name_here", "_law_sign"] vs) H :=
  fn_ok (a := fun X => a__law_fresh A) (fun w0 X hX => sim__law_fresh TX hX) (fun ags R X hF => ax__law_fresh hF) h
/-! ### the names, kinds and cells that a law draws -/
def pairD (q : Str × Int) : D := .tup [.str q.1, .int q.2]
def cellK (q : Str × Int) : Key × D := (.inr q.1, .int q.2)
structure LoreS (names : List Str) (kvs : List (Key × D)) (ps : List (Str × Int)) : Prop where
  keys : kvs.map (·.1) = names.map Sum.inr
  nd : names.Nodup
  nm : ∀ z ∈ names, NameS z
  kd : ∀ p ∈ kvs, KindD p.2
  pn : (ps.map (·.1)).Nodup
  pz : ∀ c ∈ ps.map (·.1), NameS c
  pv : ∀ q ∈ ps, q.2 = 2 ∨ q.2 = 3
  l1 : 1 ≤ names.length
  l2 : names.length ≤ 12
  l3 : ps.length ≤ 2
def loreD (names : List Str) (kvs : List (Key × D)) (ps : List (Str × Int)) : D := .lst [.lst (names.map .str), .dct kvs, .lst (ps.map pairD)]
theorem nd_snoc {α : Type} {l : List α} {x : α} (h : l.Nodup) (n : x ∉ l) : (l ++ [x]).Nodup := by
  rw [List.nodup_append]
  refine ⟨h, List.nodup_cons.mpr ⟨List.not_mem_nil, List.nodup_nil⟩, fun a ha b hb e => ?_⟩
  rw [List.mem_singleton] at hb
  subst hb e
  exact n ha
def F__law_lore (_ : Ad) : AF := fun ags R _ => ∃ (p : List D) (s c : Int), ags = [.res (.lst p), .dat (.int s), .dat (.int c)] ∧ PoolD p ∧ 1 ≤ s ∧ s ≤ 11 ∧ 0 ≤ c ∧ c ≤ 2 ∧ ∀ names kvs ps p', LoreS names kvs ps → PoolD p' → R (.res (.lst [.lst (names.map .str), .dct kvs, .lst (ps.map pairD)])) [.lst p']
def t__law_lore (K : PySem.W.Frag) (A : Ad) : TS :=
  (tSeq (tAsg (tLst tNil) (gName 3))
  (tSeq (tAsg tDNewK (gName 4))
  (tSeq (tFor (iRng1 (tCons (tOp (oAddX K) (tC (.int 1)) (tCall (sp__law_draw K A) [] E0 (tCons (tVar 0) (tCons (tVar 1) tNil)))) tNil)) (gName 5)
  (tSeq (tAsg (tCall (sp__law_fresh K A) [] E0 (tCons (tVar 0) (tCons (tVar 3) tNil))) (gName 7))
  (tSeq (tDrop (tBM K "list" rAppend (tVar 3) (tCons (tVar 7) tNil)))
  (tAsg (tCall (sp__law_kind K A) [] E0 (tCons (tVar 0) tNil)) (gSub (tVar 4) (tVar 7) rSetX)))))
  (tSeq (tAsg (tLst tNil) (gName 6))
  (tSeq (tFor (iRng1 (tCons (tCall (sp__law_draw K A) [] E0 (tCons (tVar 0) (tCons (tOp (oAddX K) (tVar 2) (tC (.int 1))) tNil))) tNil)) (gName 5)
  (tSeq (tAsg (tCall (sp__law_fresh K A) [] E0 (tCons (tVar 0) (tCons (tLc (iAny K (tVar 6)) (gName 8) tYes (tOp (oIxX K) (tVar 8) (tC (.int 0))) [8]) tNil))) (gName 7))
  (tDrop (tBM K "list" rAppend (tVar 6) (tCons (tTup (tCons (tVar 7) (tCons (tOp (oAddX K) (tC (.int 2)) (tCall (sp__law_draw K A) [] E0 (tCons (tVar 0) (tCons (tC (.int 2)) tNil)))) tNil))) tNil)))))
  (tSeq (tIfS (tAnd (tTest (tOp (oEq K) (tCB (cLenX K) (tCons (tVar 6) tNil)) (tC (.int 2)))) (tTest (tOp oLtS (tOp (oIxX K) (tOp (oIxX K) (tVar 6) (tC (.int 1))) (tC (.int 0))) (tOp (oIxX K) (tOp (oIxX K) (tVar 6) (tC (.int 0))) (tC (.int 0))))))
  (tAsg (tLst (tCons (tOp (oIxX K) (tVar 6) (tC (.int 1))) (tCons (tOp (oIxX K) (tVar 6) (tC (.int 0))) tNil))) (gName 6))
  tNext)
  (tRet (tLst (tCons (tVar 3) (tCons (tVar 4) (tCons (tVar 6) tNil)))))))))))
abbrev sp__law_lore (K : PySem.W.Frag) (A : Ad) : Sp := Conc K (F__law_lore A)
def a__law_lore (A : Ad) : ATS :=
  (aSeq (aAsg (aLst aNil) (aName 3))
  (aSeq (aAsg aDNew (aName 4))
  (aSeq (aForT (iRng1A (aCons (aOp fAdd (aC (.int 1)) (aCB (aFn [true, false] (F__law_draw A) X0) (aCons (aVar 0) (aCons (aVar 1) aNil)))) aNil)) (aName 5)
  (aSeq (aAsg (aCB (aFn [true, true] (F__law_fresh A) X0) (aCons (aVar 0) (aCons (aVar 3) aNil))) (aName 7))
  (aSeq (aDrop (aBML fAppend (aVar 3) (aCons (aVar 7) aNil)))
  (aAsg (aCB (aFn [true] (F__law_kind A) X0) (aCons (aVar 0) aNil)) (aSub (aVar 4) (aVar 7))))))
  (aSeq (aAsg (aLst aNil) (aName 6))
  (aSeq (aForT (iRng1A (aCons (aCB (aFn [true, false] (F__law_draw A) X0) (aCons (aVar 0) (aCons (aOp fAdd (aVar 2) (aC (.int 1))) aNil))) aNil)) (aName 5)
  (aSeq (aAsg (aCB (aFn [true, true] (F__law_fresh A) X0) (aCons (aVar 0) (aCons (aLcT (iAnyA (aVar 6)) (aName 8) aYes (aOp fIx (aVar 8) (aC (.int 0))) [8]) aNil))) (aName 7))
  (aDrop (aBML fAppend (aVar 6) (aCons (aTup (aCons (aVar 7) (aCons (aOp fAdd (aC (.int 2)) (aCB (aFn [true, false] (F__law_draw A) X0) (aCons (aVar 0) (aCons (aC (.int 2)) aNil)))) aNil))) aNil)))))
  (aSeq (aIfS (aAnd (aTest (aOp (fEq false) (aCB fLen (aCons (aVar 6) aNil)) (aC (.int 2)))) (aTest (aOp fLtS (aOp fIx (aOp fIx (aVar 6) (aC (.int 1))) (aC (.int 0))) (aOp fIx (aOp fIx (aVar 6) (aC (.int 0))) (aC (.int 0))))))
  (aAsg (aLst (aCons (aOp fIx (aVar 6) (aC (.int 1))) (aCons (aOp fIx (aVar 6) (aC (.int 0))) aNil))) (aName 6))
  aNext)
  (aRet (aLst (aCons (aVar 3) (aCons (aVar 4) (aCons (aVar 6) aNil)))))))))))
theorem sim__law_lore {K : PySem.W.Frag} {A : Ad} (TX : Caught K A) {w0 : W} {E : XK} {X : XA} (hX : XOk K w0 E X) : SimS K w0 (t__law_lore K A) (a__law_lore A) :=
  (sim_seq (sim_asg (sim_lst sim_nil) sim_name)
  (sim_seq (sim_asg sim_dnew sim_name)
  (sim_seq (sim_forT (si_rng1 (sim_cons (sim_op so_add (sim_c fun w => .int _) (sim_call xok0 (sim_cons sim_var (sim_cons sim_var sim_nil)))) sim_nil)) sim_name
  (sim_seq (sim_asg (sim_call xok0 (sim_cons sim_var (sim_cons sim_var sim_nil))) sim_name)
  (sim_seq (sim_drop (sim_bm sb_append sim_var (sim_cons sim_var sim_nil)))
  (sim_asg (sim_call xok0 (sim_cons sim_var sim_nil)) (sim_sub sim_var sim_var)))))
  (sim_seq (sim_asg (sim_lst sim_nil) sim_name)
  (sim_seq (sim_forT (si_rng1 (sim_cons (sim_call xok0 (sim_cons sim_var (sim_cons (sim_op so_add sim_var (sim_c fun w => .int _)) sim_nil))) sim_nil)) sim_name
  (sim_seq (sim_asg (sim_call xok0 (sim_cons sim_var (sim_cons (sim_lcT si_var sim_name (wip_name (by decide)) sim_yes (sim_op so_ix sim_var (sim_c fun w => .int _))) sim_nil))) sim_name)
  (sim_drop (sim_bm sb_append sim_var (sim_cons (sim_tup (sim_cons sim_var (sim_cons (sim_op so_add (sim_c fun w => .int _) (sim_call xok0 (sim_cons sim_var (sim_cons (sim_c fun w => .int _) sim_nil)))) sim_nil))) sim_nil)))))
  (sim_seq (sim_ifS (sim_and (sim_test (sim_op so_eq (sim_cb sc_len (sim_cons sim_var sim_nil)) (sim_c fun w => .int _))) (sim_test (sim_op so_ltS (sim_op so_ix (sim_op so_ix sim_var (sim_c fun w => .int _)) (sim_c fun w => .int _)) (sim_op so_ix (sim_op so_ix sim_var (sim_c fun w => .int _)) (sim_c fun w => .int _)))))
  (sim_asg (sim_lst (sim_cons (sim_op so_ix sim_var (sim_c fun w => .int _)) (sim_cons (sim_op so_ix sim_var (sim_c fun w => .int _)) sim_nil))) sim_name)
  sim_next)
  (sim_ret (sim_lst (sim_cons sim_var (sim_cons sim_var (sim_cons sim_var sim_nil)))))))))))
theorem ax__law_lore {A : Ad} {ags : List Ag} {R : Ag → List Res → Prop} {X : XA} (h : F__law_lore A ags R X) : a__law_lore A (aEnds (agS 0 ags).2.length R) (aStart 9 ags) := by
  obtain ⟨p, s, c, rfl, hp, s1, s2, c1, c2, k⟩ := h
  unfold a__law_lore
  walk_at "st"
  walk_at "aw"
  refine ⟨p, s, rfl, hp, by omega, by omega, fun n1 p1 n10 n11 hp1 => ?_⟩
  walk_at "aw"
  refine s_kRng rfl (by omega) (by omega) ⟨trivial, loopT (fun i s' => ∃ (p : List D) (names : List Str) (kvs : List (Key × D)) (x5 x7 : Option Sl), s' = ⟨[some (.res 0), some (.dat (.int s)), some (.dat (.int c)), some (.res 1), some (.res 2), x5, none, x7, none], [.lst p, .lst (names.map .str), .dic kvs]⟩ ∧
    PoolD p ∧ names.length = i ∧ kvs.map (·.1) = names.map Sum.inr ∧ names.Nodup ∧ (∀ z ∈ names, NameS z) ∧ ∀ q ∈ kvs, KindD q.2) ⟨p1, [], [], none, none, rfl, hp1, rfl, rfl, List.nodup_nil, (fun _ h => nomatch h), fun _ h => nomatch h⟩ ?_ ?_⟩
  · rintro i d s' N hd hN ⟨p2, names, kvs, x5, x7, rfl, hp2, hl, hk, hnd, hnm, hkd⟩
    obtain ⟨hi, rfl⟩ := rng_get hd
    have hkl : kvs.length = names.length := by
      have := congrArg List.length hk
      rw [List.length_map, List.length_map] at this
      exact this
    walk_at "aw"
    refine ⟨p2, names, rfl, hp2, by omega, fun z p3 hz hnz hp3 => ?_⟩
    walk_at "aw"
    refine ⟨⟨_, rfl⟩, ?_⟩
    walk_at "aw"
    refine s_appD (k := 1) (l := names.map .str) rfl rfl rfl (by rw [List.length_map]; exact sz1l (by omega)) ?_
    walk_at "aw"
    refine ⟨p3, rfl, hp3, fun kd p4 hkd4 hp4 => ?_⟩
    walk_at "aw"
    refine s_setD (k := 2) (kv := kvs) rfl rfl rfl rfl (sz1l (by omega)) ?_
    have hput := put_keys (d := kd) (nm := z) hk
    rw [if_neg hnz] at hput
    refine hN _ ⟨p4, names ++ [z], putD kvs (.inr z) kd, _, _, by rw [List.map_append]; rfl, hp4, by rw [List.length_append, hl]; rfl, hput, nd_snoc hnd hnz, fun y hy => ?_, put_all hkd hkd4⟩ trivial
    rcases List.mem_append.mp hy with hy | hy
    · exact hnm y hy
    · rw [List.mem_singleton.mp hy]; exact hz
  · rintro s' ⟨p2, names, kvs, x5, x7, rfl, hp2, hl, hk, hnd, hnm, hkd⟩
    have hl' : names.length = (1 + n1).toNat := by rw [hl]; unfold rngD; simp
    walk_at "aw"
    refine ⟨p2, c + 1, rfl, hp2, by omega, by omega, fun n2 p3 n20 n21 hp3 => ?_⟩
    walk_at "aw"
    refine s_kRng rfl (by omega) (by omega) ⟨trivial, loopT (fun i s' => ∃ (p : List D) (ps : List (Str × Int)) (x5 x7 x8 : Option Sl), s' = ⟨[some (.res 0), some (.dat (.int s)), some (.dat (.int c)), some (.res 1), some (.res 2), x5, some (.res 3), x7, x8], [.lst p, .lst (names.map .str), .dic kvs, .lst (ps.map pairD)]⟩ ∧
      PoolD p ∧ ps.length = i ∧ (ps.map (·.1)).Nodup ∧ (∀ z ∈ ps.map (·.1), NameS z) ∧ ∀ q ∈ ps, q.2 = 2 ∨ q.2 = 3) ⟨p3, [], _, _, _, rfl, hp3, rfl, List.nodup_nil, (fun _ h => nomatch h), fun _ h => nomatch h⟩ ?_ ?_⟩
    · rintro i d s' N hd hN ⟨p4, ps, x5, x7, x8, rfl, hp4, hl, hnd, hnm, hpv⟩
      obtain ⟨hi, rfl⟩ := rng_get hd
      walk_at "aw"
      refine s_iVL rfl (x := .res 3) rfl rfl ⟨.inl rfl, lcT (fun j ρ => ρ = [.lst p4, .lst (names.map .str), .dic kvs, .lst (ps.map pairD), .lst (((ps.map (·.1)).map .str).take j)]) rfl ?_ ?_⟩
      · rintro j d ρ N2 hd2 hN2 rfl
        rw [List.getElem?_map] at hd2
        obtain ⟨q, hq, rfl⟩ := Option.map_eq_some_iff.mp hd2
        have hjl : j < ps.length := (List.getElem?_eq_some_iff.mp hq).1
        walk_at "ai"
        refine ⟨_, rfl, ?_, hN2 _ ?_ (.inl rfl)⟩
        · rw [List.length_take, List.length_map, List.length_map]; exact sz1l (by omega)
        · rw [take_at _ (show ((ps.map (·.1)).map D.str)[j]? = some (.str q.1) by rw [List.getElem?_map, List.getElem?_map, hq]; rfl)]
          rfl
      · rintro ρ rfl
        have e : ((ps.map (·.1)).map D.str).take (ps.map pairD).length = (ps.map (·.1)).map D.str := by
          rw [List.take_of_length_le]
          rw [List.length_map, List.length_map, List.length_map]
          exact Nat.le_refl _
        rw [e]
        walk_at "aw"
        refine ⟨p4, ps.map (·.1), rfl, hp4, by rw [List.length_map]; omega, fun z p5 hz hnz hp5 => ?_⟩
        walk_at "aw"
        refine ⟨⟨_, rfl⟩, ?_⟩
        walk_at "aw"
        refine ⟨p5, 2, rfl, hp5, by decide, by decide, fun v p6 v0 v1 hp6 => ?_⟩
        walk_at "aw"
        refine s_appD (k := 3) (l := ps.map pairD) rfl rfl rfl (by rw [List.length_map]; exact sz1l (by omega)) ?_
        walk_at "aw"
        refine hN _ ⟨p6, ps ++ [(z, 2 + v)], _, _, _, by rw [List.map_append]; rfl, hp6, by rw [List.length_append, hl]; rfl, ?_, ?_, ?_⟩ trivial
        · rw [List.map_append]; exact nd_snoc hnd hnz
        · intro y hy
          rw [List.map_append] at hy
          rcases List.mem_append.mp hy with hy | hy
          · exact hnm y hy
          · rw [List.mem_singleton.mp hy]; exact hz
        · intro y hy
          rcases List.mem_append.mp hy with hy | hy
          · exact hpv y hy
          · rw [List.mem_singleton.mp hy]; show 2 + v = 2 ∨ 2 + v = 3; omega
    · rintro s' ⟨p4, ps, x5, x7, x8, rfl, hp4, hl, hpn, hpz, hpv⟩
      have hpl : ps.length ≤ 2 := by
        have : (rngD 0 n2.toNat).length = n2.toNat := by unfold rngD; simp
        omega
      have hL : LoreS names kvs ps := ⟨hk, hnd, hnm, hkd, hpn, hpz, hpv, by omega, by omega, hpl⟩
      walk_at "as"
      refine s_cut (fun s' => s' = ⟨[some (.res 0), some (.dat (.int s)), some (.dat (.int c)), some (.res 1), some (.res 2), x5, some (.res 3), x7, x8], [.lst p4, .lst (names.map .str), .dic kvs, .lst (ps.map pairD)]⟩ ∨
        ∃ (q1 q2 : Str × Int), ps = [q1, q2] ∧ s' = ⟨[some (.res 0), some (.dat (.int s)), some (.dat (.int c)), some (.res 1), some (.res 2), x5, some (.res 4), x7, x8], [.lst p4, .lst (names.map .str), .dic kvs, .lst (ps.map pairD), .lst [pairD q2, pairD q1]]⟩) (fun N hN => ?_) ?_
      · walk_at "aw"
        rw [if_neg Bool.false_ne_true]
        refine q_dec (fun h2 => ?_) (fun h2 => ?_)
        · have hp2 : ∃ q1 q2, ps = [q1, q2] := by
            rw [List.length_map] at h2
            match ps, h2 with
            | [q1, q2], _ => exact ⟨q1, q2, rfl⟩
            | [], h => cases h
            | [q1], h => exact absurd h (by simp)
            | q1 :: q2 :: q3 :: r, h => exact absurd h (by simp; omega)
          obtain ⟨q1, q2, rfl⟩ := hp2
          walk_at "aw"
          refine s_ltS rfl rfl ?_
          walk_at "aw"
          refine q_dec (fun h3 => ?_) (fun h3 => ?_)
          · walk_at "aw"
            exact hN _ (.inr ⟨q1, q2, rfl, rfl⟩)
          · walk_at "aw"
            exact hN _ (.inl rfl)
        · walk_at "ai"
          exact hN _ (.inl rfl)
      · rintro s' (rfl | ⟨q1, q2, rfl, rfl⟩)
        · walk_at "aw"
          exact ⟨by decide, _, rfl, k _ _ _ _ hL hp4⟩
        · have hL2 : LoreS names kvs [q2, q1] := by
            obtain ⟨_, _, _, _, hpn, hpz, hpv, h5, h6, h7⟩ := hL
            have hne : q1.1 ≠ q2.1 := fun e => by
              have := (List.nodup_cons.mp hpn).1
              exact this (List.mem_cons.mpr (.inl e))
            refine ⟨hk, hnd, hnm, hkd, ?_, fun c hc => hpz c ?_, fun q hq => hpv q ?_, h5, h6, h7⟩
            · exact List.nodup_cons.mpr ⟨fun z => hne (List.mem_singleton.mp z).symm, List.nodup_cons.mpr ⟨List.not_mem_nil, List.nodup_nil⟩⟩
            · rcases List.mem_cons.mp hc with rfl | hc
              · exact List.mem_cons_of_mem _ List.mem_cons_self
              · rw [List.mem_singleton.mp hc]; exact List.mem_cons_self
            · rcases List.mem_cons.mp hq with rfl | hq
              · exact List.mem_cons_of_mem _ List.mem_cons_self
              · rw [List.mem_singleton.mp hq]; exact List.mem_cons_self
          walk_at "aw"
          exact ⟨by decide, _, rfl, k _ _ _ _ hL2 hp4⟩
theorem pure__law_lore {K : PySem.W.Frag} {A : Ad} (TX : Caught K A) {vs : List V} {H : Hp} {Q : VK} {E : XK} (h : sp__law_lore K A vs H Q E) : t__law_lore K A { nx := fun _ H' => Q .non H', rt := Q } (L2.start ["_law_pool_here", "_law_steps", "_law_cells", "_law_names", "_law_kinds", "_law_k", "_law_pairs", "_law_name_here", "_law_pair"] vs) H :=
  fn_ok (a := fun X => a__law_lore A) (fun w0 X hX => sim__law_lore TX hX) (fun ags R X hF => ax__law_lore hF) h
/-! ### the book of what was drawn -/
theorem CellsD : True := trivial
def F_Book_add_cell (A : Ad) : AF := fun ags R _ => ∃ (kvs zs : List (Key × D)) (nm : Str) (n : Int), ags = [.res (bookI A kvs (.dct zs)), .dat (.str nm), .dat (.int n)] ∧ NameS nm ∧ (n = 2 ∨ n = 3) ∧ hasD zs nm = false ∧ zs.length < 2 ∧ R (.dat .non) [bookI A kvs (.dct (putD zs (.inr nm) (.int n)))]
theorem put_le {zs : List (Key × D)} {k : Key} {d : D} : (putD zs k d).length ≤ zs.length + 1 := by
  unfold putD
  split
  · rw [List.length_map]; omega
  · rw [List.length_append]; exact Nat.le_refl _
def t_Book_add_cell (K : PySem.W.Frag) (A : Ad) (E : XK) : TS :=
  (tSeq (tDrop (tCall (sp_check_name K A) [] E (tCons (tVar 1) tNil)))
  (tSeq (tIfS (tTest (tOp (oNotInX K) (tVar 2) (tC (.ref A.t_CELL_SIZES))))
  (tRaiseE A.c_BadNumber "number" (fun cls d _ H => E cls d H) (tCons (tVar 2) tNil))
  tNext)
  (tSeq (tIfS (tTest (tOp (oInX K) (tVar 1) (tFldC A.c_Book "_sizes" (tVar 0))))
  (tRaiseE A.c_Clash "name" (fun cls d _ H => E cls d H) (tCons (tVar 1) tNil))
  tNext)
  (sFldC A.c_Book "_sizes" (tVar 0) (tCall (sp_at_most K A) [] E (tCons (tStarKV (tFldC A.c_Book "_sizes" (tVar 0)) (tVar 1) (tVar 2)) (tCons (tC (.int 2)) tNil)))))))
abbrev sp_Book_add_cell (K : PySem.W.Frag) (A : Ad) : Sp := Conc K (F_Book_add_cell A)
def a_Book_add_cell (A : Ad) (X : XA) : ATS :=
  (aSeq (aDrop (aCB (aFn [false] (F_check_name A) X) (aCons (aVar 1) aNil)))
  (aSeq (aIfS (aTest (aOp (fIn true) (aVar 2) (aC (.tup [.int 2, .int 3]))))
  (aRaise A.c_BadNumber "number" X (aCons (aVar 2) aNil))
  aNext)
  (aSeq (aIfS (aTest (aOp (fIn false) (aVar 1) (aFld A.c_Book "_sizes" (aVar 0))))
  (aRaise A.c_Clash "name" X (aCons (aVar 1) aNil))
  aNext)
  (asFld A.c_Book "_sizes" (aVar 0) (aCB (aFn [false, false] (F_at_most A) X) (aCons (aStarKV (aFld A.c_Book "_sizes" (aVar 0)) 1 2) (aCons (aC (.int 2)) aNil)))))))
theorem sim_Book_add_cell {K : PySem.W.Frag} {A : Ad} (TX : Caught K A) {w0 : W} {E : XK} {X : XA} (hX : XOk K w0 E X) : SimS K w0 (t_Book_add_cell K A E) (a_Book_add_cell A X) :=
  (sim_seq (sim_drop (sim_call hX (sim_cons sim_var sim_nil)))
  (sim_seq (sim_ifS (sim_test (sim_op so_notIn sim_var (sim_c fun w => .tup (fun H _ => TX.t_CELL_SIZES H) (.cons (.int _) (.cons (.int _) .nil)))))
  (sim_raise hX (sim_cons sim_var sim_nil))
  sim_next)
  (sim_seq (sim_ifS (sim_test (sim_op so_in sim_var (sim_fld sim_var)))
  (sim_raise hX (sim_cons sim_var sim_nil))
  sim_next)
  (sim_sfld sim_var (sim_call hX (sim_cons (sim_starKV (sim_fld sim_var)) (sim_cons (sim_c fun w => .int _) sim_nil)))))))
theorem ax_Book_add_cell {A : Ad} {ags : List Ag} {R : Ag → List Res → Prop} {X : XA} (h : F_Book_add_cell A ags R X) : a_Book_add_cell A (fun c f d ρ => X c f d (ρ.take (agS 0 ags).2.length)) (aEnds (agS 0 ags).2.length R) (aStart 3 ags) := by
  obtain ⟨kvs, zs, nm, n, rfl, hn, h23, hh, hl, k⟩ := h
  unfold a_Book_add_cell
  walk_at "st"
  walk_at "aw"
  have := hn.le
  refine ⟨nm, rfl, by omega, fun _ => ?_, fun z => absurd hn z⟩
  walk_at "aw"
  refine s_inQ (l := [.int 2, .int 3]) rfl rfl rfl rfl ?_
  have h23' : inD (.int n) [.int 2, .int 3] = true := by rcases h23 with rfl | rfl <;> rfl
  rw [if_pos rfl, h23']
  walk_at "ai"
  refine s_inD rfl rfl rfl ?_
  unfold hasD at hh
  rw [if_neg Bool.false_ne_true, hh]
  walk_at "ai"
  refine n_starKV (by walk_at "nf") ?_
  walk_at "aw"
  refine ⟨rfl, (fun z => nomatch z), zs, rfl, Nat.lt_trans hl (by decide), .str nm, .inr nm, .int n, rfl, rfl, rfl, ?_⟩
  walk_at "aw"
  have := put_le (zs := zs) (k := (.inr nm : Key)) (d := .int n)
  refine ⟨_, 2, rfl, fun _ => ?_, fun z => absurd (show ((putD zs (.inr nm) (.int n)).length : Int) ≤ 2 by omega) z⟩
  walk_at "aw"
  exact k
theorem pure_Book_add_cell {K : PySem.W.Frag} {A : Ad} (TX : Caught K A) {vs : List V} {H : Hp} {Q : VK} {E : XK} (h : sp_Book_add_cell K A vs H Q E) : t_Book_add_cell K A E { nx := fun _ H' => Q .non H', rt := Q } (L2.start ["self", "name", "size"] vs) H :=
  fn_ok (a := fun X => a_Book_add_cell A X) (fun w0 X hX => sim_Book_add_cell TX hX) (fun ags R X hF => ax_Book_add_cell hF) h
theorem key_at {β : Type} : ∀ {kvs : List (Key × β)} {names : List Str} {i : Nat} {nm : Str} {d : β}, kvs.map (·.1) = names.map Sum.inr → names.Nodup → kvs[i]? = some (.inr nm, d) → (kvs.find? fun p => decide (p.1 = (.inr nm : Key))).map (·.2) = some d
  | [], _, _, _, _, _, _, e => by cases e
  | p :: r, [], _, _, _, h, _, _ => by cases h
  | p :: r, z :: zs, 0, nm, d, h, nd, e => by
    cases e
    rw [List.find?_cons, decide_eq_true rfl]
    rfl
  | p :: r, z :: zs, i + 1, nm, d, h, nd, e => by
    rw [List.map_cons, List.map_cons] at h
    injection h with h1 h2
    have e' : r[i]? = some (.inr nm, d) := e
    have hm : nm ∈ zs := by
      have h3 : (r.map (·.1))[i]? = some (.inr nm) := by rw [List.getElem?_map, e']; rfl
      rw [h2, List.getElem?_map] at h3
      obtain ⟨y, hy, hy2⟩ := Option.map_eq_some_iff.mp h3
      injection hy2 with hy2
      rw [← hy2]
      exact List.mem_of_getElem? hy
    have hne : ¬ p.1 = (.inr nm : Key) := fun q => by
      rw [h1] at q
      injection q with q
      exact (List.nodup_cons.mp nd).1 (by rw [q]; exact hm)
    rw [List.find?_cons, decide_eq_false hne]
    exact key_at h2 (List.nodup_cons.mp nd).2 e'
theorem put_next {kvs : List (Key × D)} {names : List Str} {i : Nat} {nm : Str} {d : D} (h : kvs.map (·.1) = names.map Sum.inr) (nd : names.Nodup) (e : kvs[i]? = some (.inr nm, d)) : putD (kvs.take i) (.inr nm) d = kvs.take (i + 1) ∧ hasD (kvs.take i) nm = false := by
  have hk : (kvs.take i).map (·.1) = (names.take i).map Sum.inr := by rw [List.map_take, List.map_take, h]
  have hi : names[i]? = some nm := by
    have h3 : (kvs.map (·.1))[i]? = some (.inr nm) := by rw [List.getElem?_map, e]; rfl
    rw [h, List.getElem?_map] at h3
    obtain ⟨y, hy, hy2⟩ := Option.map_eq_some_iff.mp h3
    injection hy2 with hy2
    rw [← hy2]; exact hy
  have hn : nm ∉ names.take i := fun z => by
    obtain ⟨j, hj⟩ := List.mem_iff_getElem?.mp z
    rw [List.getElem?_take] at hj
    split at hj
    · obtain ⟨j1, j2⟩ := List.getElem?_eq_some_iff.mp hj
      obtain ⟨i1, i2⟩ := List.getElem?_eq_some_iff.mp hi
      exact List.pairwise_iff_getElem.mp nd j i j1 i1 (by assumption) (j2.trans i2.symm)
    · cases hj
  have ha := any_keys (nm := nm) hk
  rw [decide_eq_false hn] at ha
  refine ⟨?_, ha⟩
  unfold putD
  rw [ha, if_neg Bool.false_ne_true, take_at _ e]
theorem kind_ok {d : D} (h : KindD d) : kindF d = none := by
  cases h with
  | plain =>
    show (if ("plain" : Str) = "plain" then none else some (Er.kind (.tup [.str "plain"]))) = none
    exact if_pos rfl
  | @num w i hw h0 h1 =>
    show (if w = "answer" ∨ w = "heal" then _ else _) = _
    rw [if_pos hw, if_pos ⟨h0, by omega⟩]
  | @nam w z hw hz =>
    show (if w = "jump" ∨ w = "swap" then _ else _) = _
    rw [if_pos hw, if_pos hz]
theorem cell_keys (ps : List (Str × Int)) : (ps.map cellK).map (·.1) = (ps.map (·.1)).map Sum.inr := by rw [List.map_map, List.map_map]; rfl
def F__law_book (A : Ad) : AF := fun ags R _ => ∃ names kvs ps, ags = [.dat (loreD names kvs ps)] ∧ LoreS names kvs ps ∧ R (.res (bookI A kvs (.dct (ps.map cellK)))) []
def t__law_book (K : PySem.W.Frag) (A : Ad) : TS :=
  (tSeq (tAsg (tMake A.c_Book (sp_Book___init__ K A) [] E0 tNil) (gName 1))
  (tSeq (tFor (iAny K (tOp (oIxX K) (tVar 0) (tC (.int 0)))) (gName 2)
  (tAsg (tOp (oIxX K) (tOp (oIxX K) (tVar 0) (tC (.int 1))) (tVar 2)) (gSubS (tVar 1) (tVar 2) A.c_Book (sp_Book___setitem__ K A) (fun _ => E0))))
  (tSeq (tFor (iAny K (tOp (oIxX K) (tVar 0) (tC (.int 2)))) (gName 3)
  (tDrop (tMethS A.c_Book "add_cell" (sp_Book_add_cell K A) (fun _ => E0) (tVar 1) (tCons (tOp (oIxX K) (tVar 3) (tC (.int 0))) (tCons (tOp (oIxX K) (tVar 3) (tC (.int 1))) tNil)))))
  (tRet (tVar 1)))))
abbrev sp__law_book (K : PySem.W.Frag) (A : Ad) : Sp := Conc K (F__law_book A)
def a__law_book (A : Ad) : ATS :=
  (aSeq (aAsg (aMake A.c_Book [] (F_Book___init__ A) X0 aNil) (aName 1))
  (aSeq (aForT (iLstA (aOp fIx (aVar 0) (aC (.int 0)))) (aName 2)
  (aAsg (aOp fIx (aOp fIx (aVar 0) (aC (.int 1))) (aVar 2)) (aSubS A.c_Book (F_Book___setitem__ A) (fun _ => X0) (aVar 1) (aVar 2))))
  (aSeq (aForT (iLstA (aOp fIx (aVar 0) (aC (.int 2)))) (aName 3)
  (aDrop (aMeth A.c_Book "add_cell" [false, false] (F_Book_add_cell A) X0 (aVar 1) (aCons (aOp fIx (aVar 3) (aC (.int 0))) (aCons (aOp fIx (aVar 3) (aC (.int 1))) aNil)))))
  (aRet (aVar 1)))))
theorem sim__law_book {K : PySem.W.Frag} {A : Ad} (TX : Caught K A) {w0 : W} {E : XK} {X : XA} (hX : XOk K w0 E X) : SimS K w0 (t__law_book K A) (a__law_book A) :=
  (sim_seq (sim_asg (sim_make xok0 sim_nil) sim_name)
  (sim_seq (sim_forT (si_lst (sim_op so_ix sim_var (sim_c fun w => .int _))) sim_name
  (sim_asg (sim_op so_ix (sim_op so_ix sim_var (sim_c fun w => .int _)) sim_var) (sim_subS xsok0 sim_var sim_var)))
  (sim_seq (sim_forT (si_lst (sim_op so_ix sim_var (sim_c fun w => .int _))) sim_name
  (sim_drop (sim_methS xok0 sim_var (sim_cons (sim_op so_ix sim_var (sim_c fun w => .int _)) (sim_cons (sim_op so_ix sim_var (sim_c fun w => .int _)) sim_nil)))))
  (sim_ret sim_var))))
theorem ax__law_book {A : Ad} {ags : List Ag} {R : Ag → List Res → Prop} {X : XA} (h : F__law_book A ags R X) : a__law_book A (aEnds (agS 0 ags).2.length R) (aStart 4 ags) := by
  obtain ⟨names, kvs, ps, rfl, hL, k⟩ := h
  have hkl : kvs.length = names.length := by
    have := congrArg List.length hL.keys
    rw [List.length_map, List.length_map] at this
    exact this
  have l2 := hL.l2
  have l3 := hL.l3
  unfold a__law_book
  walk_at "st"
  walk_at "aw"
  refine s_make ?_
  walk_at "aw"
  refine ⟨rfl, ?_⟩
  walk_at "aw"
  refine ⟨rfl, ?_⟩
  walk_at "aw"
  have nth : ∀ {i : Nat} {nm : Str}, names[i]? = some nm → ∃ kd, kvs[i]? = some (.inr nm, kd) := fun {i nm} e => by
    have h3 : (kvs.map (·.1))[i]? = some (.inr nm) := by rw [hL.keys, List.getElem?_map, e]; rfl
    rw [List.getElem?_map] at h3
    obtain ⟨⟨a, b⟩, h4, h5⟩ := Option.map_eq_some_iff.mp h3
    exact ⟨b, by rw [h4]; cases h5; rfl⟩
  refine s_kLst rfl ⟨trivial, ?_⟩
  refine loopT (fun i s' => ∃ x2 : Option Sl, s' = ⟨[some (.dat (loreD names kvs ps)), some (.res 0), x2, none], [bookI A (kvs.take i) (.dct [])]⟩) ⟨none, rfl⟩ ?_ ?_
  · rintro i d s' N hd hN ⟨x2, rfl⟩
    rw [List.getElem?_map] at hd
    obtain ⟨nm, hnm, rfl⟩ := Option.map_eq_some_iff.mp hd
    obtain ⟨kd, hkd⟩ := nth hnm
    have hz := hL.nm nm (List.mem_of_getElem? hnm)
    have hK := hL.kd _ (List.mem_of_getElem? hkd)
    obtain ⟨hp1, hp2⟩ := put_next hL.keys hL.nd hkd
    have hil : i < kvs.length := (List.getElem?_eq_some_iff.mp hkd).1
    have hf : stepF (kvs.take i) nm kd = none := by
      unfold stepF
      rw [if_neg (not_not_intro hz), kind_ok hK]
      dsimp only
      rw [hp1, if_pos (by rw [List.length_take]; omega)]
    walk_at "aw"
    refine s_ixD rfl rfl rfl (key_at hL.keys hL.nd hkd) ?_
    walk_at "aw"
    refine s_subS ?_
    walk_at "aw"
    refine ⟨⟨_, fld_res (k := 0) rfl⟩, s_fn ?_⟩
    walk_at "aw"
    have := hz.le
    refine ⟨kvs.take i, .dct [], nm, kd, rfl, by rw [List.length_take]; omega, by omega, hK.rough, fun _ => ?_, fun e he => by rw [hf] at he; cases he⟩
    walk_at "aw"
    rw [hp1]
    exact hN _ ⟨_, rfl⟩ trivial
  · rintro s' ⟨x2, rfl⟩
    rw [List.length_map, ← hkl, List.take_length]
    walk_at "aw"
    refine s_kLst rfl ⟨trivial, ?_⟩
    refine loopT (fun i s' => ∃ x2 x3 : Option Sl, s' = ⟨[some (.dat (loreD names kvs ps)), some (.res 0), x2, x3], [bookI A kvs (.dct ((ps.map cellK).take i))]⟩) ⟨x2, none, rfl⟩ ?_ ?_
    · rintro i d s' N hd hN ⟨x2, x3, rfl⟩
      rw [List.getElem?_map] at hd
      obtain ⟨q, hq, rfl⟩ := Option.map_eq_some_iff.mp hd
      have hqm := List.mem_of_getElem? hq
      have hz := hL.pz q.1 (List.mem_map.mpr ⟨q, hqm, rfl⟩)
      have he : (ps.map cellK)[i]? = some (.inr q.1, .int q.2) := by rw [List.getElem?_map, hq]; rfl
      obtain ⟨hp1, hp2⟩ := put_next (cell_keys ps) hL.pn he
      have hil : i < ps.length := (List.getElem?_eq_some_iff.mp hq).1
      walk_at "aw"
      refine s_meth ?_
      walk_at "aw"
      refine ⟨⟨_, fld_res (k := 0) rfl, lk_no2⟩, ?_⟩
      walk_at "aw"
      refine ⟨kvs, (ps.map cellK).take i, q.1, q.2, rfl, hz, hL.pv q hqm, hp2, by rw [List.length_take, List.length_map]; omega, ?_⟩
      rw [hp1]
      walk_at "aw"
      exact hN _ ⟨_, _, rfl⟩ trivial
    · rintro s' ⟨x2, x3, rfl⟩
      have e : (ps.map cellK).take (ps.map pairD).length = ps.map cellK := by
        rw [List.take_of_length_le]
        rw [List.length_map, List.length_map]
        exact Nat.le_refl _
      rw [e]
      walk_at "aw"
      exact ⟨Nat.le_refl _, _, rfl, k⟩
theorem pure__law_book {K : PySem.W.Frag} {A : Ad} (TX : Caught K A) {vs : List V} {H : Hp} {Q : VK} {E : XK} (h : sp__law_book K A vs H Q E) : t__law_book K A { nx := fun _ H' => Q .non H', rt := Q } (L2.start ["_law_lore_here", "_law_book_here", "_law_name_here", "_law_pair"] vs) H :=
  fn_ok (a := fun X => a__law_book A) (fun w0 X hX => sim__law_book TX hX) (fun ags R X hF => ax__law_book hF) h
/-! ### arguments, actions -/
theorem kind_word {kvs : List (Key × D)} {names : List Str} {s : Str} (h : kvs.map (·.1) = names.map Sum.inr) (nd : names.Nodup) (hk : ∀ p ∈ kvs, KindD p.2) (hs : s ∈ names) : ∃ w r, atD kvs s = some (.tup (.str w :: r)) := by
  obtain ⟨i, hi⟩ := List.mem_iff_getElem?.mp hs
  have h3 : (kvs.map (·.1))[i]? = some (.inr s) := by rw [h, List.getElem?_map, hi]; rfl
  rw [List.getElem?_map] at h3
  obtain ⟨⟨a, d⟩, h4, h5⟩ := Option.map_eq_some_iff.mp h3
  have e : kvs[i]? = some (.inr s, d) := by rw [h4]; cases h5; rfl
  have hK := hk _ (List.mem_of_getElem? e)
  have ha : atD kvs s = some d := key_at h nd e
  refine (?_ : ∃ w r, d = .tup (.str w :: r)).elim fun w h1 => h1.elim fun r h2 => ⟨w, r, by rw [← h2]; exact ha⟩
  cases hK with
  | plain => exact ⟨_, _, rfl⟩
  | num => exact ⟨_, _, rfl⟩
  | nam => exact ⟨_, _, rfl⟩
def F__law_argument (_ : Ad) : AF := fun ags R _ => ∃ (p : List D) (names : List Str) (kvs : List (Key × D)) (ps : List (Str × Int)), ags = [.res (.lst p), .dat (loreD names kvs ps), .dat (.bl true)] ∧ PoolD p ∧ ps.length ≤ 2 ∧ ∀ a p', ArgD a → PoolD p' → R (.dat a) [.lst p']
def t__law_argument (K : PySem.W.Frag) (A : Ad) : TS :=
  (tSeq (tAsg (tCall (sp__law_draw K A) [] E0 (tCons (tVar 0) (tCons (tC (.int 4)) tNil))) (gName 3))
  (tSeq (tIfS (tOr (tTest (tOp (oEq K) (tVar 3) (tC (.int 0)))) (tAnd (tTest (tOp (oEq K) (tVar 3) (tC (.int 1)))) (tAnd (tTest (tOp oGt (tCB (cLenX K) (tCons (tOp (oIxX K) (tVar 1) (tC (.int 2))) tNil)) (tC (.int 0)))) (tTest (tOp (oEq K) (tCall (sp__law_draw K A) [] E0 (tCons (tVar 0) (tCons (tC (.int 2)) tNil))) (tC (.int 0)))))))
  (tRet (tC .non))
  tNext)
  (tSeq (tIfS (tOr (tTest (tOp (oEq K) (tVar 3) (tC (.int 1)))) (tTest (tOp (oEq K) (tCB (cLenX K) (tCons (tOp (oIxX K) (tVar 1) (tC (.int 2))) tNil)) (tC (.int 0)))))
  (tRet (tCall (sp__law_number K A) [] E0 (tCons (tVar 0) tNil)))
  tNext)
  (tSeq (tAsg (tOp (oIxX K) (tOp (oIxX K) (tOp (oIxX K) (tVar 1) (tC (.int 2))) (tCall (sp__law_draw K A) [] E0 (tCons (tVar 0) (tCons (tCB (cLenX K) (tCons (tOp (oIxX K) (tVar 1) (tC (.int 2))) tNil)) tNil)))) (tC (.int 0))) (gName 4))
  (tSeq (tIfS (tAnd (tB (tVar 2)) (tTest (tOp oGt (tCall (sp__law_draw K A) [] E0 (tCons (tVar 0) (tCons (tC (.int 3)) tNil))) (tC (.int 0)))))
  (tRet (tTup (tCons (tC (.str "late")) (tCons (tVar 4) tNil))))
  tNext)
  (tRet (tTup (tCons (tC (.str "now")) (tCons (tVar 4) tNil)))))))))
abbrev sp__law_argument (K : PySem.W.Frag) (A : Ad) : Sp := Conc K (F__law_argument A)
def a__law_argument (A : Ad) : ATS :=
  (aSeq (aAsg (aCB (aFn [true, false] (F__law_draw A) X0) (aCons (aVar 0) (aCons (aC (.int 4)) aNil))) (aName 3))
  (aSeq (aIfS (aOr (aTest (aOp (fEq false) (aVar 3) (aC (.int 0)))) (aAnd (aTest (aOp (fEq false) (aVar 3) (aC (.int 1)))) (aAnd (aTest (aOp fGt (aCB fLen (aCons (aOp fIx (aVar 1) (aC (.int 2))) aNil)) (aC (.int 0)))) (aTest (aOp (fEq false) (aCB (aFn [true, false] (F__law_draw A) X0) (aCons (aVar 0) (aCons (aC (.int 2)) aNil))) (aC (.int 0)))))))
  (aRet (aC .non))
  aNext)
  (aSeq (aIfS (aOr (aTest (aOp (fEq false) (aVar 3) (aC (.int 1)))) (aTest (aOp (fEq false) (aCB fLen (aCons (aOp fIx (aVar 1) (aC (.int 2))) aNil)) (aC (.int 0)))))
  (aRet (aCB (aFn [true] (F__law_number A) X0) (aCons (aVar 0) aNil)))
  aNext)
  (aSeq (aAsg (aOp fIx (aOp fIx (aOp fIx (aVar 1) (aC (.int 2))) (aCB (aFn [true, false] (F__law_draw A) X0) (aCons (aVar 0) (aCons (aCB fLen (aCons (aOp fIx (aVar 1) (aC (.int 2))) aNil)) aNil)))) (aC (.int 0))) (aName 4))
  (aSeq (aIfS (aAnd (aTest (aVar 2)) (aTest (aOp fGt (aCB (aFn [true, false] (F__law_draw A) X0) (aCons (aVar 0) (aCons (aC (.int 3)) aNil))) (aC (.int 0)))))
  (aRet (aTup (aCons (aC (.str "late")) (aCons (aVar 4) aNil))))
  aNext)
  (aRet (aTup (aCons (aC (.str "now")) (aCons (aVar 4) aNil)))))))))
theorem sim__law_argument {K : PySem.W.Frag} {A : Ad} (TX : Caught K A) {w0 : W} {E : XK} {X : XA} (hX : XOk K w0 E X) : SimS K w0 (t__law_argument K A) (a__law_argument A) :=
  (sim_seq (sim_asg (sim_call xok0 (sim_cons sim_var (sim_cons (sim_c fun w => .int _) sim_nil))) sim_name)
  (sim_seq (sim_ifS (sim_or (sim_test (sim_op so_eq sim_var (sim_c fun w => .int _))) (sim_and (sim_test (sim_op so_eq sim_var (sim_c fun w => .int _))) (sim_and (sim_test (sim_op so_cmp (sim_cb sc_len (sim_cons (sim_op so_ix sim_var (sim_c fun w => .int _)) sim_nil)) (sim_c fun w => .int _))) (sim_test (sim_op so_eq (sim_call xok0 (sim_cons sim_var (sim_cons (sim_c fun w => .int _) sim_nil))) (sim_c fun w => .int _))))))
  (sim_ret (sim_c fun w => .non))
  sim_next)
  (sim_seq (sim_ifS (sim_or (sim_test (sim_op so_eq sim_var (sim_c fun w => .int _))) (sim_test (sim_op so_eq (sim_cb sc_len (sim_cons (sim_op so_ix sim_var (sim_c fun w => .int _)) sim_nil)) (sim_c fun w => .int _))))
  (sim_ret (sim_call xok0 (sim_cons sim_var sim_nil)))
  sim_next)
  (sim_seq (sim_asg (sim_op so_ix (sim_op so_ix (sim_op so_ix sim_var (sim_c fun w => .int _)) (sim_call xok0 (sim_cons sim_var (sim_cons (sim_cb sc_len (sim_cons (sim_op so_ix sim_var (sim_c fun w => .int _)) sim_nil)) sim_nil)))) (sim_c fun w => .int _)) sim_name)
  (sim_seq (sim_ifS (sim_and (sim_tB sim_var) (sim_test (sim_op so_cmp (sim_call xok0 (sim_cons sim_var (sim_cons (sim_c fun w => .int _) sim_nil))) (sim_c fun w => .int _))))
  (sim_ret (sim_tup (sim_cons (sim_c fun w => .str _) (sim_cons sim_var sim_nil))))
  sim_next)
  (sim_ret (sim_tup (sim_cons (sim_c fun w => .str _) (sim_cons sim_var sim_nil)))))))))
theorem ax__law_argument {A : Ad} {ags : List Ag} {R : Ag → List Res → Prop} {X : XA} (h : F__law_argument A ags R X) : a__law_argument A (aEnds (agS 0 ags).2.length R) (aStart 5 ags) := by
  obtain ⟨p, names, kvs, ps, rfl, hp, hl, k⟩ := h
  have kN : ∀ p', PoolD p' → R (.dat .non) [.lst p'] := fun p' hp' => k _ _ (.inl rfl) hp'
  have kI : ∀ (n : Int) p', PoolD p' → R (.dat (.int n)) [.lst p'] := fun n p' hp' => k _ _ (.inr (.inl ⟨n, rfl⟩)) hp'
  unfold a__law_argument
  walk_at "st"
  walk_at "aw"
  refine ⟨p, 4, rfl, hp, by decide, by decide, fun ch p1 c0 c1 hp1 => ?_⟩
  walk_at "as"
  refine s_cut (fun s' => ∃ p, s' = ⟨[some (.res 0), some (.dat (loreD names kvs ps)), some (.dat (.bl true)), some (.dat (.int ch)), none], [.lst p]⟩ ∧ PoolD p) (fun N hN => ?_) ?_
  · walk_at "aw"
    rw [if_neg Bool.false_ne_true]
    refine q_dec (fun h1 => ?_) (fun h1 => ?_)
    · walk_at "ai"
      exact kN _ hp1
    · walk_at "aw"
      rw [if_neg Bool.false_ne_true]
      refine q_dec (fun h2 => ?_) (fun h2 => ?_)
      · walk_at "aw"
        refine q_dec (fun h3 => ?_) (fun h3 => ?_)
        · walk_at "aw"
          refine ⟨p1, 2, rfl, hp1, by decide, by decide, fun v p2 v0 v1 hp2 => ?_⟩
          walk_at "aw"
          rw [if_neg Bool.false_ne_true]
          refine q_dec (fun h4 => ?_) (fun h4 => ?_)
          · walk_at "aw"
            exact kN _ hp2
          · walk_at "aw"
            exact hN _ ⟨_, rfl, hp2⟩
        · walk_at "ai"
          exact hN _ ⟨_, rfl, hp1⟩
      · walk_at "ai"
        exact hN _ ⟨_, rfl, hp1⟩
  · rintro s' ⟨p2, rfl, hp2⟩
    walk_at "aw"
    rw [if_neg Bool.false_ne_true]
    refine q_dec (fun h1 => ?_) (fun h1 => ?_)
    · walk_at "ai"
      refine ⟨p2, rfl, hp2, fun n p3 _ _ hp3 => ?_⟩
      walk_at "aw"
      exact kI _ _ hp3
    · walk_at "aw"
      rw [if_neg Bool.false_ne_true]
      refine q_dec (fun h2 => ?_) (fun h2 => ?_)
      · walk_at "aw"
        refine ⟨p2, rfl, hp2, fun n p3 _ _ hp3 => ?_⟩
        walk_at "aw"
        exact kI _ _ hp3
      · rw [List.length_map] at h2
        walk_at "aw"
        refine ⟨p2, ((ps.map pairD).length : Int), rfl, hp2, by rw [List.length_map]; omega, by rw [List.length_map]; omega, fun v p3 v0 v1 hp3 => ?_⟩
        walk_at "aw"
        refine s_ixM rfl rfl v0 v1 fun u hu => ?_
        obtain ⟨q, hq, rfl⟩ := List.mem_map.mp hu
        walk_at "ai"
        refine ⟨p3, 3, rfl, hp3, by decide, by decide, fun v2 p4 _ _ hp4 => ?_⟩
        walk_at "aw"
        refine q_dec (fun h3 => ?_) (fun h3 => ?_)
        · walk_at "aw"
          exact k _ _ (.inr (.inr ⟨_, _, rfl⟩)) hp4
        · walk_at "aw"
          exact k _ _ (.inr (.inr ⟨_, _, rfl⟩)) hp4
theorem pure__law_argument {K : PySem.W.Frag} {A : Ad} (TX : Caught K A) {vs : List V} {H : Hp} {Q : VK} {E : XK} (h : sp__law_argument K A vs H Q E) : t__law_argument K A { nx := fun _ H' => Q .non H', rt := Q } (L2.start ["_law_pool_here", "_law_lore_here", "_law_late", "_law_choice", "_law_cell"] vs) H :=
  fn_ok (a := fun X => a__law_argument A) (fun w0 X hX => sim__law_argument TX hX) (fun ags R X hF => ax__law_argument hF) h
/-- what actions are drawn from -/
structure LoreR (names : List Str) (kvs : List (Key × D)) (ps : List (Str × Int)) : Prop where
  st : ∀ s ∈ names, ∃ w r, atD kvs s = some (.tup (.str w :: r))
  l1 : 1 ≤ names.length
  l2 : names.length ≤ 12
  l3 : ps.length ≤ 2
theorem LoreS.r {names : List Str} {kvs : List (Key × D)} {ps : List (Str × Int)} (h : LoreS names kvs ps) : LoreR names kvs ps := ⟨fun _ hs => kind_word h.keys h.nd h.kd hs, h.l1, h.l2, h.l3⟩
def R__law_action (_ : Ad) (n : Nat) : AF := fun ags R _ => ∃ (p : List D) (names : List Str) (kvs : List (Key × D)) (ps : List (Str × Int)) (dp : Int), ags = [.res (.lst p), .dat (loreD names kvs ps), .dat (.int dp)] ∧ PoolD p ∧ LoreR names kvs ps ∧ 0 ≤ dp ∧ dp ≤ 2 ∧ 3 ≤ dp + n ∧ ∀ d p', ActD kvs 3 (3 - dp).toNat d → PoolD p' → R (.dat d) [.lst p']
abbrev F__law_action (A : Ad) : AF := R__law_action A 3
def t__law_action (K : PySem.W.Frag) (A : Ad) (rec : Sp) : TS :=
  (tSeq (tAsg (tOp (oIxX K) (tLst (tCons (tC (.str "done")) (tCons (tC (.str "error")) (tCons (tC (.str "always")) tNil)))) (tCall (sp__law_draw K A) [] E0 (tCons (tVar 0) (tCons (tC (.int 3)) tNil)))) (gName 3))
  (tSeq (tAsg (tOp (oIxX K) (tOp (oIxX K) (tVar 1) (tC (.int 0))) (tCall (sp__law_draw K A) [] E0 (tCons (tVar 0) (tCons (tCB (cLenX K) (tCons (tOp (oIxX K) (tVar 1) (tC (.int 0))) tNil)) tNil)))) (gName 4))
  (tSeq (tAsg (tCall (sp__law_argument K A) [] E0 (tCons (tVar 0) (tCons (tVar 1) (tCons (tC (.bl true)) tNil)))) (gName 5))
  (tSeq (tAsg (tTup tNil) (gName 6))
  (tSeq (tIfS (tAnd (tTest (tOp (oNe K) (tVar 3) (tC (.str "error")))) (tAnd (tTest (tOp oLt (tVar 2) (tC (.int 2)))) (tTest (tOp (oEq K) (tCall (sp__law_draw K A) [] E0 (tCons (tVar 0) (tCons (tC (.int 3)) tNil))) (tC (.int 2))))))
  (tFor (iRng1 (tCons (tOp (oAddX K) (tC (.int 1)) (tCall (sp__law_draw K A) [] E0 (tCons (tVar 0) (tCons (tOp oSub (tC (.int 3)) (tVar 2)) tNil)))) tNil)) (gName 7)
  (tAsg (tOp (oAddX K) (tVar 6) (tTup (tCons (tCall rec [] E0 (tCons (tVar 0) (tCons (tVar 1) (tCons (tOp (oAddX K) (tVar 2) (tC (.int 1))) tNil)))) tNil))) (gName 6)))
  tNext)
  (tRet (tTup (tCons (tVar 3) (tCons (tVar 4) (tCons (tVar 5) (tCons (tVar 6) tNil)))))))))))
abbrev sp__law_action (K : PySem.W.Frag) (A : Ad) : Sp := Conc K (F__law_action A)
abbrev rec_law_action (K : PySem.W.Frag) (A : Ad) (n : Nat) : Sp := Conc K (R__law_action A n)
def a__law_action (A : Ad) (rec : AF) : ATS :=
  (aSeq (aAsg (aOp fIx (aLst (aCons (aC (.str "done")) (aCons (aC (.str "error")) (aCons (aC (.str "always")) aNil)))) (aCB (aFn [true, false] (F__law_draw A) X0) (aCons (aVar 0) (aCons (aC (.int 3)) aNil)))) (aName 3))
  (aSeq (aAsg (aOp fIx (aOp fIx (aVar 1) (aC (.int 0))) (aCB (aFn [true, false] (F__law_draw A) X0) (aCons (aVar 0) (aCons (aCB fLen (aCons (aOp fIx (aVar 1) (aC (.int 0))) aNil)) aNil)))) (aName 4))
  (aSeq (aAsg (aCB (aFn [true, false, false] (F__law_argument A) X0) (aCons (aVar 0) (aCons (aVar 1) (aCons (aC (.bl true)) aNil)))) (aName 5))
  (aSeq (aAsg (aTup aNil) (aName 6))
  (aSeq (aIfS (aAnd (aTest (aOp (fEq true) (aVar 3) (aC (.str "error")))) (aAnd (aTest (aOp fLt (aVar 2) (aC (.int 2)))) (aTest (aOp (fEq false) (aCB (aFn [true, false] (F__law_draw A) X0) (aCons (aVar 0) (aCons (aC (.int 3)) aNil))) (aC (.int 2))))))
  (aForT (iRng1A (aCons (aOp fAdd (aC (.int 1)) (aCB (aFn [true, false] (F__law_draw A) X0) (aCons (aVar 0) (aCons (aOp fSub (aC (.int 3)) (aVar 2)) aNil)))) aNil)) (aName 7)
  (aAsg (aOp fAdd (aVar 6) (aTup (aCons (aCB (aFn [true, false, false] rec X0) (aCons (aVar 0) (aCons (aVar 1) (aCons (aOp fAdd (aVar 2) (aC (.int 1))) aNil)))) aNil))) (aName 6)))
  aNext)
  (aRet (aTup (aCons (aVar 3) (aCons (aVar 4) (aCons (aVar 5) (aCons (aVar 6) aNil)))))))))))
theorem sim__law_action {K : PySem.W.Frag} {A : Ad} (TX : Caught K A) (rec : AF) {w0 : W} {E : XK} {X : XA} (hX : XOk K w0 E X) : SimS K w0 (t__law_action K A (Conc K rec)) (a__law_action A rec) :=
  (sim_seq (sim_asg (sim_op so_ix (sim_lst (sim_cons (sim_c fun w => .str _) (sim_cons (sim_c fun w => .str _) (sim_cons (sim_c fun w => .str _) sim_nil)))) (sim_call xok0 (sim_cons sim_var (sim_cons (sim_c fun w => .int _) sim_nil)))) sim_name)
  (sim_seq (sim_asg (sim_op so_ix (sim_op so_ix sim_var (sim_c fun w => .int _)) (sim_call xok0 (sim_cons sim_var (sim_cons (sim_cb sc_len (sim_cons (sim_op so_ix sim_var (sim_c fun w => .int _)) sim_nil)) sim_nil)))) sim_name)
  (sim_seq (sim_asg (sim_call xok0 (sim_cons sim_var (sim_cons sim_var (sim_cons (sim_c fun w => .bl _) sim_nil)))) sim_name)
  (sim_seq (sim_asg (sim_tup sim_nil) sim_name)
  (sim_seq (sim_ifS (sim_and (sim_test (sim_op so_ne sim_var (sim_c fun w => .str _))) (sim_and (sim_test (sim_op so_cmp sim_var (sim_c fun w => .int _))) (sim_test (sim_op so_eq (sim_call xok0 (sim_cons sim_var (sim_cons (sim_c fun w => .int _) sim_nil))) (sim_c fun w => .int _)))))
  (sim_forT (si_rng1 (sim_cons (sim_op so_add (sim_c fun w => .int _) (sim_call xok0 (sim_cons sim_var (sim_cons (sim_op so_sub (sim_c fun w => .int _) sim_var) sim_nil)))) sim_nil)) sim_name
  (sim_asg (sim_op so_add sim_var (sim_tup (sim_cons (sim_call xok0 (sim_cons sim_var (sim_cons sim_var (sim_cons (sim_op so_add sim_var (sim_c fun w => .int _)) sim_nil)))) sim_nil))) sim_name))
  sim_next)
  (sim_ret (sim_tup (sim_cons sim_var (sim_cons sim_var (sim_cons sim_var (sim_cons sim_var sim_nil)))))))))))
theorem ax__law_action {A : Ad} {n : Nat} {ags : List Ag} {R : Ag → List Res → Prop} {X : XA} (h : R__law_action A (n + 1) ags R X) : a__law_action A (R__law_action A n) (aEnds (agS 0 ags).2.length R) (aStart 8 ags) := by
  obtain ⟨p, names, kvs, ps, dp, rfl, hp, hL, d0, d2, dn, k⟩ := h
  have em : (3 - dp).toNat = (2 - dp).toNat + 1 := by omega
  rw [em] at k
  have l1 := hL.l1
  have l2 := hL.l2
  unfold a__law_action
  walk_at "st"
  walk_at "aw"
  refine ⟨p, 3, rfl, hp, by decide, by decide, fun gi p1 g0 g1 hp1 => ?_⟩
  walk_at "aw"
  refine s_ixM rfl rfl g0 g1 fun u hu => ?_
  obtain ⟨g, rfl, hg⟩ : ∃ v : Str, u = .str v ∧ (v = "done" ∨ v = "error" ∨ v = "always") := by
    simp only [List.mem_cons, List.not_mem_nil, or_false] at hu
    rcases hu with rfl | rfl | rfl
    · exact ⟨_, rfl, .inl rfl⟩
    · exact ⟨_, rfl, .inr (.inl rfl)⟩
    · exact ⟨_, rfl, .inr (.inr rfl)⟩
  walk_at "aw"
  refine ⟨p1, ((names.map D.str).length : Int), rfl, hp1, by rw [List.length_map]; omega, by rw [List.length_map]; omega, fun si p2 s0 s1 hp2 => ?_⟩
  walk_at "aw"
  refine s_ixM rfl rfl s0 s1 fun u hu => ?_
  obtain ⟨s, hs, rfl⟩ := List.mem_map.mp hu
  walk_at "aw"
  refine ⟨p2, names, kvs, ps, rfl, hp2, hL.l3, fun a p3 ha hp3 => ?_⟩
  walk_at "as"
  refine s_cut (fun s' => ∃ (p : List D) (f : List D) (x7 : Option Sl), s' = ⟨[some (.res 0), some (.dat (loreD names kvs ps)), some (.dat (.int dp)), some (.dat (.str g)), some (.dat (.str s)), some (.dat a), some (.dat (.tup f)), x7], [.lst p, .lst [.str "done", .str "error", .str "always"]]⟩ ∧ PoolD p ∧ f.length ≤ 3 ∧ ∀ x ∈ f, ActD kvs 3 (2 - dp).toNat x) (fun N hN => ?_) ?_
  · have hno : N ⟨[some (.res 0), some (.dat (loreD names kvs ps)), some (.dat (.int dp)), some (.dat (.str g)), some (.dat (.str s)), some (.dat a), some (.dat (.tup [])), none], [.lst p3, .lst [.str "done", .str "error", .str "always"]]⟩ := hN _ ⟨p3, [], none, rfl, hp3, Nat.zero_le _, fun x h => nomatch h⟩
    walk_at "aw"
    rw [if_pos rfl]
    refine q_ndec (fun h1 => ?_) (fun h1 => ?_)
    · walk_at "aw"
      refine q_dec (fun h2 => ?_) (fun h2 => ?_)
      · walk_at "aw"
        refine ⟨p3, 3, rfl, hp3, by decide, by decide, fun v p4 v0 v1 hp4 => ?_⟩
        walk_at "aw"
        rw [if_neg Bool.false_ne_true]
        refine q_dec (fun h3 => ?_) (fun h3 => ?_)
        · walk_at "aw"
          refine ⟨p4, 3 - dp, rfl, hp4, by omega, by omega, fun v2 p5 w0 w1 hp5 => ?_⟩
          walk_at "aw"
          refine s_kRng rfl (by omega) (by omega) ⟨trivial, loopT (fun i s' => ∃ (p : List D) (f : List D) (x7 : Option Sl), s' = ⟨[some (.res 0), some (.dat (loreD names kvs ps)), some (.dat (.int dp)), some (.dat (.str g)), some (.dat (.str s)), some (.dat a), some (.dat (.tup f)), x7], [.lst p, .lst [.str "done", .str "error", .str "always"]]⟩ ∧ PoolD p ∧ f.length = i ∧ ∀ x ∈ f, ActD kvs 3 (2 - dp).toNat x) ⟨p5, [], none, rfl, hp5, rfl, fun x h => nomatch h⟩ ?_ ?_⟩
          · rintro i d s' N' hd hN' ⟨p6, f, x7, rfl, hp6, hf, hx⟩
            obtain ⟨hi, rfl⟩ := rng_get hd
            walk_at "aw"
            refine ⟨p6, names, kvs, ps, dp + 1, rfl, hp6, hL, by omega, by omega, by omega, fun d p7 hd7 hp7 => ?_⟩
            rw [show (3 - (dp + 1)).toNat = (2 - dp).toNat by omega] at hd7
            walk_at "aw"
            refine s_addT rfl rfl (sz1m (by rw [List.length_singleton]; omega)) ?_
            walk_at "aw"
            refine hN' _ ⟨p7, f ++ [d], _, rfl, hp7, by rw [List.length_append, hf]; rfl, fun x hm => ?_⟩ trivial
            rcases List.mem_append.mp hm with hm | hm
            · exact hx x hm
            · rw [List.mem_singleton.mp hm]; exact hd7
          · rintro s' ⟨p6, f, x7, rfl, hp6, hf, hx⟩
            have : (rngD 0 (1 + v2).toNat).length = (1 + v2).toNat := by unfold rngD; simp
            exact hN _ ⟨p6, f, x7, rfl, hp6, by omega, hx⟩
        · walk_at "aw"
          exact hN _ ⟨p4, [], none, rfl, hp4, Nat.zero_le _, fun x h => nomatch h⟩
      · walk_at "ai"
        exact hno
    · walk_at "ai"
      exact hno
  · rintro s' ⟨p4, f, x7, rfl, hp4, hf, hx⟩
    walk_at "aw"
    exact k _ _ ⟨g, s, a, f, rfl, hg, hL.st s hs, ha, hf, hx⟩ hp4
theorem pure__law_action {K : PySem.W.Frag} {A : Ad} {n : Nat} (TX : Caught K A) {vs : List V} {H : Hp} {Q : VK} {E : XK} (h : rec_law_action K A (n + 1) vs H Q E) : t__law_action K A (rec_law_action K A n) { nx := fun _ H' => Q .non H', rt := Q } (L2.start ["_law_pool_here", "_law_lore_here", "_law_depth", "_law_guard", "_law_step", "_law_argument_here", "_law_further", "_law_k"] vs) H :=
  fn_ok (a := fun X => a__law_action A (R__law_action A n)) (fun w0 X hX => sim__law_action TX (R__law_action A n) hX) (fun ags R X hF => ax__law_action hF) h
theorem no_law_action {K : PySem.W.Frag} {A : Ad} {vs : List V} {H : Hp} {Q : VK} {E : XK} (z : rec_law_action K A 0 vs H Q E) : False := by
  obtain ⟨_, _, _, _, _, _, ⟨_, _, _, _, _, _, _, _, _, h1, h2, _⟩, _⟩ := z
  omega
def F__law_rich (_ : Ad) : AF := fun ags R _ => ∃ (p : List D) (names : List Str) (kvs : List (Key × D)) (ps : List (Str × Int)), ags = [.res (.lst p), .dat (loreD names kvs ps)] ∧ PoolD p ∧ LoreR names kvs ps ∧ ∀ d p', ActD kvs 3 3 d → PoolD p' → R (.dat d) [.lst p']
def t__law_rich (K : PySem.W.Frag) (A : Ad) : TS :=
  (tSeq (tIfS (tTest (tOp (oEq K) (tCall (sp__law_draw K A) [] E0 (tCons (tVar 0) (tCons (tC (.int 2)) tNil))) (tC (.int 0))))
  (tRet (tCall (sp__law_action K A) [] E0 (tCons (tVar 0) (tCons (tVar 1) (tCons (tC (.int 0)) tNil)))))
  tNext)
  (tSeq (tAsg (tTup tNil) (gName 2))
  (tSeq (tFor (iRng1 (tCons (tOp (oAddX K) (tC (.int 1)) (tCall (sp__law_draw K A) [] E0 (tCons (tVar 0) (tCons (tC (.int 3)) tNil)))) tNil)) (gName 3)
  (tAsg (tOp (oAddX K) (tVar 2) (tTup (tCons (tCall (sp__law_action K A) [] E0 (tCons (tVar 0) (tCons (tVar 1) (tCons (tC (.int 1)) tNil)))) tNil))) (gName 2)))
  (tSeq (tAsg (tOp (oIxX K) (tOp (oIxX K) (tVar 1) (tC (.int 0))) (tCall (sp__law_draw K A) [] E0 (tCons (tVar 0) (tCons (tCB (cLenX K) (tCons (tOp (oIxX K) (tVar 1) (tC (.int 0))) tNil)) tNil)))) (gName 4))
  (tRet (tTup (tCons (tOp (oIxX K) (tLst (tCons (tC (.str "done")) (tCons (tC (.str "always")) tNil))) (tCall (sp__law_draw K A) [] E0 (tCons (tVar 0) (tCons (tC (.int 2)) tNil)))) (tCons (tVar 4) (tCons (tCall (sp__law_argument K A) [] E0 (tCons (tVar 0) (tCons (tVar 1) (tCons (tC (.bl true)) tNil)))) (tCons (tVar 2) tNil))))))))))
abbrev sp__law_rich (K : PySem.W.Frag) (A : Ad) : Sp := Conc K (F__law_rich A)
def a__law_rich (A : Ad) : ATS :=
  (aSeq (aIfS (aTest (aOp (fEq false) (aCB (aFn [true, false] (F__law_draw A) X0) (aCons (aVar 0) (aCons (aC (.int 2)) aNil))) (aC (.int 0))))
  (aRet (aCB (aFn [true, false, false] (F__law_action A) X0) (aCons (aVar 0) (aCons (aVar 1) (aCons (aC (.int 0)) aNil)))))
  aNext)
  (aSeq (aAsg (aTup aNil) (aName 2))
  (aSeq (aForT (iRng1A (aCons (aOp fAdd (aC (.int 1)) (aCB (aFn [true, false] (F__law_draw A) X0) (aCons (aVar 0) (aCons (aC (.int 3)) aNil)))) aNil)) (aName 3)
  (aAsg (aOp fAdd (aVar 2) (aTup (aCons (aCB (aFn [true, false, false] (F__law_action A) X0) (aCons (aVar 0) (aCons (aVar 1) (aCons (aC (.int 1)) aNil)))) aNil))) (aName 2)))
  (aSeq (aAsg (aOp fIx (aOp fIx (aVar 1) (aC (.int 0))) (aCB (aFn [true, false] (F__law_draw A) X0) (aCons (aVar 0) (aCons (aCB fLen (aCons (aOp fIx (aVar 1) (aC (.int 0))) aNil)) aNil)))) (aName 4))
  (aRet (aTup (aCons (aOp fIx (aLst (aCons (aC (.str "done")) (aCons (aC (.str "always")) aNil))) (aCB (aFn [true, false] (F__law_draw A) X0) (aCons (aVar 0) (aCons (aC (.int 2)) aNil)))) (aCons (aVar 4) (aCons (aCB (aFn [true, false, false] (F__law_argument A) X0) (aCons (aVar 0) (aCons (aVar 1) (aCons (aC (.bl true)) aNil)))) (aCons (aVar 2) aNil))))))))))
theorem sim__law_rich {K : PySem.W.Frag} {A : Ad} (TX : Caught K A) {w0 : W} {E : XK} {X : XA} (hX : XOk K w0 E X) : SimS K w0 (t__law_rich K A) (a__law_rich A) :=
  (sim_seq (sim_ifS (sim_test (sim_op so_eq (sim_call xok0 (sim_cons sim_var (sim_cons (sim_c fun w => .int _) sim_nil))) (sim_c fun w => .int _)))
  (sim_ret (sim_call xok0 (sim_cons sim_var (sim_cons sim_var (sim_cons (sim_c fun w => .int _) sim_nil)))))
  sim_next)
  (sim_seq (sim_asg (sim_tup sim_nil) sim_name)
  (sim_seq (sim_forT (si_rng1 (sim_cons (sim_op so_add (sim_c fun w => .int _) (sim_call xok0 (sim_cons sim_var (sim_cons (sim_c fun w => .int _) sim_nil)))) sim_nil)) sim_name
  (sim_asg (sim_op so_add sim_var (sim_tup (sim_cons (sim_call xok0 (sim_cons sim_var (sim_cons sim_var (sim_cons (sim_c fun w => .int _) sim_nil)))) sim_nil))) sim_name))
  (sim_seq (sim_asg (sim_op so_ix (sim_op so_ix sim_var (sim_c fun w => .int _)) (sim_call xok0 (sim_cons sim_var (sim_cons (sim_cb sc_len (sim_cons (sim_op so_ix sim_var (sim_c fun w => .int _)) sim_nil)) sim_nil)))) sim_name)
  (sim_ret (sim_tup (sim_cons (sim_op so_ix (sim_lst (sim_cons (sim_c fun w => .str _) (sim_cons (sim_c fun w => .str _) sim_nil))) (sim_call xok0 (sim_cons sim_var (sim_cons (sim_c fun w => .int _) sim_nil)))) (sim_cons sim_var (sim_cons (sim_call xok0 (sim_cons sim_var (sim_cons sim_var (sim_cons (sim_c fun w => .bl _) sim_nil)))) (sim_cons sim_var sim_nil))))))))))
theorem ax__law_rich {A : Ad} {ags : List Ag} {R : Ag → List Res → Prop} {X : XA} (h : F__law_rich A ags R X) : a__law_rich A (aEnds (agS 0 ags).2.length R) (aStart 5 ags) := by
  obtain ⟨p, names, kvs, ps, rfl, hp, hL, k⟩ := h
  have l1 := hL.l1
  have l2 := hL.l2
  unfold a__law_rich
  walk_at "st"
  walk_at "aw"
  refine ⟨p, 2, rfl, hp, by decide, by decide, fun v p1 v0 v1 hp1 => ?_⟩
  walk_at "aw"
  rw [if_neg Bool.false_ne_true]
  refine q_dec (fun h1 => ?_) (fun h1 => ?_)
  · walk_at "aw"
    refine ⟨p1, names, kvs, ps, 0, rfl, hp1, hL, by decide, by decide, by decide, fun d p2 hd hp2 => ?_⟩
    walk_at "aw"
    exact k _ _ hd hp2
  · walk_at "aw"
    refine ⟨p1, 3, rfl, hp1, by decide, by decide, fun v2 p2 w0 w1 hp2 => ?_⟩
    walk_at "aw"
    refine s_kRng rfl (by omega) (by omega) ⟨trivial, loopT (fun i s' => ∃ (p : List D) (f : List D) (x3 : Option Sl), s' = ⟨[some (.res 0), some (.dat (loreD names kvs ps)), some (.dat (.tup f)), x3, none], [.lst p]⟩ ∧ PoolD p ∧ f.length = i ∧ ∀ x ∈ f, ActD kvs 3 2 x) ⟨p2, [], none, rfl, hp2, rfl, fun x h => nomatch h⟩ ?_ ?_⟩
    · rintro i d s' N' hd hN' ⟨p6, f, x3, rfl, hp6, hf, hx⟩
      obtain ⟨hi, rfl⟩ := rng_get hd
      walk_at "aw"
      refine ⟨p6, names, kvs, ps, 1, rfl, hp6, hL, by decide, by decide, by decide, fun d p7 hd7 hp7 => ?_⟩
      walk_at "aw"
      refine s_addT rfl rfl (sz1m (by rw [List.length_singleton]; omega)) ?_
      walk_at "aw"
      refine hN' _ ⟨p7, f ++ [d], _, rfl, hp7, by rw [List.length_append, hf]; rfl, fun x hm => ?_⟩ trivial
      rcases List.mem_append.mp hm with hm | hm
      · exact hx x hm
      · rw [List.mem_singleton.mp hm]; exact hd7
    · rintro s' ⟨p6, f, x3, rfl, hp6, hf, hx⟩
      have hlr : (rngD 0 (1 + v2).toNat).length = (1 + v2).toNat := by unfold rngD; simp
      walk_at "aw"
      refine ⟨p6, ((names.map D.str).length : Int), rfl, hp6, by rw [List.length_map]; omega, by rw [List.length_map]; omega, fun si p7 s0 s1 hp7 => ?_⟩
      walk_at "aw"
      refine s_ixM rfl rfl s0 s1 fun u hu => ?_
      obtain ⟨s, hs, rfl⟩ := List.mem_map.mp hu
      walk_at "aw"
      refine ⟨p7, 2, rfl, hp7, by decide, by decide, fun gi p8 g0 g1 hp8 => ?_⟩
      walk_at "aw"
      refine s_ixM rfl rfl g0 g1 fun u hu => ?_
      obtain ⟨g, rfl, hg⟩ : ∃ v : Str, u = .str v ∧ (v = "done" ∨ v = "error" ∨ v = "always") := by
        simp only [List.mem_cons, List.not_mem_nil, or_false] at hu
        rcases hu with rfl | rfl
        · exact ⟨_, rfl, .inl rfl⟩
        · exact ⟨_, rfl, .inr (.inr rfl)⟩
      walk_at "aw"
      refine ⟨p8, names, kvs, ps, rfl, hp8, hL.l3, fun a p9 ha hp9 => ?_⟩
      walk_at "aw"
      exact k _ _ ⟨g, s, a, f, rfl, hg, hL.st s hs, ha, by omega, hx⟩ hp9
theorem pure__law_rich {K : PySem.W.Frag} {A : Ad} (TX : Caught K A) {vs : List V} {H : Hp} {Q : VK} {E : XK} (h : sp__law_rich K A vs H Q E) : t__law_rich K A { nx := fun _ H' => Q .non H', rt := Q } (L2.start ["_law_pool_here", "_law_lore_here", "_law_further", "_law_k", "_law_step"] vs) H :=
  fn_ok (a := fun X => a__law_rich A) (fun w0 X hX => sim__law_rich TX hX) (fun ags R X hF => ax__law_rich hF) h

end Ov

set_option Elab.async false
set_option linter.all false
set_option maxRecDepth 100000
set_option maxHeartbeats 2000000
namespace Ov
open PySem PySem.Spec PyProof.Rows L2 An
local macro_rules | `(tactic| walk_at "nf") => `(tactic| ((try simp only [setAll_nil, setAll, List.set, List.map_cons, List.map_nil, aWipe, List.replicate, List.cons_append, List.nil_append, List.append_assoc, List.length_cons, List.length_nil, Nat.reduceAdd, Nat.zero_add]); first | done | exact rfl))
local macro_rules | `(tactic| walk_at "a1") => `(tactic| (first
  | with_reducible refine s_seq ?_ | with_reducible refine s_asg ?_ | ((with_reducible show aName _ _ _ _); refine n_name (by walk_at "nf") ?_) | with_reducible refine s_ret ?_ | with_reducible refine s_drop ?_ | with_reducible refine s_next ?_ | with_reducible refine s_retN ?_ | with_reducible refine s_cont ?_ | with_reducible refine s_break ?_
  | with_reducible refine s_ifS ?_ | with_reducible refine s_if ?_ | with_reducible refine s_op ?_ | with_reducible refine s_un ?_ | with_reducible refine s_test ?_ | with_reducible refine s_kTest ?_ | with_reducible refine s_c ?_ | with_reducible refine s_cons ?_ | with_reducible refine s_nil ?_
  | with_reducible refine s_cb ?_ | with_reducible refine s_chain ?_ | with_reducible refine s_and ?_ | with_reducible refine s_or ?_ | with_reducible refine s_not ?_ | with_reducible refine s_andV ?_ | with_reducible refine s_orV ?_ | with_reducible refine s_notV ?_
  | with_reducible refine s_sl ?_ | with_reducible refine s_noPart ?_ | with_reducible refine s_part ?_ | with_reducible refine s_kPart ?_ | with_reducible refine s_raise ?_ | ((with_reducible show kOne _ _ _); with_reducible refine s_kOne ?_) | with_reducible refine s_fld ?_ | with_reducible refine s_sfld ?_
  | with_reducible refine s_tup ?_ | with_reducible refine n_lst ?_ | ((with_reducible show newR _ _ _); refine n_newR (by walk_at "nf") (by walk_at "nf") ?_) | with_reducible refine s_tupE (by simp [sizeLine_eq]) ?_ | with_reducible refine s_frzs0 ?_ | with_reducible refine s_frzs1 ?_ | with_reducible refine n_dnew ?_ | with_reducible refine s_sub ?_ | with_reducible refine s_fn ?_ | with_reducible refine s_args0 ?_ | with_reducible refine s_gnil ?_ | with_reducible refine s_bm ?_
  | ((with_reducible show aDone _ _ _ (.dat _) _); refine n_doneD (by walk_at "nf") ?_) | ((with_reducible show aDone _ _ _ (.res _) _); refine n_doneR (by walk_at "nf") (by walk_at "nf") ?_) | with_reducible refine s_for ?_ | with_reducible refine s_forT ?_ | with_reducible refine s_lcT ?_ | with_reducible refine s_lc2T ?_ | with_reducible refine s_yes ?_ | with_reducible refine s_rev ?_ | with_reducible refine s_iR ?_ | with_reducible refine s_iL ?_ | with_reducible refine s_iT ?_ | with_reducible refine s_iS ?_
  | ((with_reducible show aVar _ _ _); first | refine s_varD rfl ?_ | refine s_varR rfl rfl trivial ?_ | refine s_varF rfl rfl ?_ | refine s_var rfl rfl ?_)
  | ((with_reducible show kPart _ _ _); refine s_kPart ?_)
  | ((with_reducible show fAdd _ _ _ _); refine s_addI rfl rfl ?_)
  | ((with_reducible show iI _ _ _ _ _ _); refine s_iI rfl rfl (by first | trivial | omega | decide) ?_)
  | ((with_reducible show fIx _ _ _ _); refine s_ixQ rfl rfl rfl ?_)
  | ((with_reducible show fEq _ _ _ _ _); first | refine s_eqI rfl rfl ?_ | refine s_eqS rfl rfl ?_)
  | ((with_reducible show fLen _ _ _); refine s_lenQ rfl ?_)
  | ((with_reducible show fInt _ _ _); first | refine s_intI rfl ?_ | refine s_intB rfl ?_)
  | ((with_reducible show fIsN _ _ _ _ _); refine s_isN rfl ?_)
  | ((with_reducible show fIsi _ _ _); refine s_isi rfl (by simp [tyNames]) rfl ?_)
  | ((with_reducible show frz _ _ _); first | refine s_frzD rfl ?_ | refine n_frzR rfl rfl (by walk_at "nf") ?_)
  | ((with_reducible show aGTup _ _ _ _ _); refine n_gtup rfl rfl (by walk_at "nf") ?_)
  | ((with_reducible show aGCons _ _ _ _ _); refine s_gcons ?_)
  | ((with_reducible show args _ _ _ _); first | refine s_argsD rfl ?_ | refine s_argsF rfl ?_ | refine s_argsR' rfl ?_)
  | ((with_reducible show _ ∉ _ ∧ (∃ _, _)); refine s_argsE (by first | (simp; done) | exact fun h => Nat.ne_of_beq_eq_false rfl (List.mem_singleton.mp h)) rfl ?_)
  | ((with_reducible show kFld _ _ _ _ _); first | refine s_kFldR rfl rfl lk_hd ?_ | refine s_kFldR rfl rfl lk_2 ?_ | refine s_kFldO rfl lk_hd ?_ | refine s_kFldO rfl lk_2 ?_)
  | ((with_reducible show kSFld _ _ _ _ _ _); first | refine s_kSFldR rfl rfl (by simp) pf_nil ?_ | refine s_kSFldR rfl rfl (by simp) pf_hd ?_ | refine s_kSFldR rfl rfl (by simp) pf_new ?_ | refine s_kSFldR rfl rfl (by simp) pf_2 ?_)
  | ((with_reducible show fNeg _ _ _); refine s_neg rfl ?_)
  | ((with_reducible show setX _ _ _ _ _); refine s_setL rfl rfl rfl rfl ?_)))
local macro_rules | `(tactic| walk_at "aw") => `(tactic| repeat walk_at "a1")
local macro_rules | `(tactic| walk_at "ai") => `(tactic| repeat (first | walk_at "a1" | refine q_T ?_ | refine q_F ?_))
local macro_rules | `(tactic| walk_at "as") => `(tactic| repeat ((fail_if_success with_reducible show aSeq (aIfS _ _ _) _ _ _); walk_at "a1"))
local macro_rules | `(tactic| walk_at "st") => `(tactic| dsimp only [aStart, agS, aEnds, List.length_cons, List.length_nil, Nat.reduceSub, Nat.reduceAdd, List.replicate, List.cons_append, List.nil_append])

def Sp1 (φ : V → Hp → VK → XK → Prop) : Sp := fun vs H Q E => ∃ a, vs = [a] ∧ φ a H Q E

/-! ### the law -/
def spLaw (K : PySem.W.Frag) : Sp := Sp1 fun x H Q _ => ∃ (a : Addr) (ns : List Int), x = .ref a ∧ SqL K H a (ns.map V.int) ∧ ns.length ≤ 63 ∧ ∀ H', Q (.bl true) H'
theorem law_start (K : PySem.W.Frag) (H : Hp) (a : Addr) (ns : List Int) (hl : ns.length ≤ 63) (_ : Only H) (hS : SqL K H a (ns.map V.int)) : spLaw K [.ref a] H (fun v _ => v = .bl true) fun _ _ _ => False := ⟨_, rfl, a, ns, rfl, hS, hl, fun _ => rfl⟩
abbrev sp_law (K : PySem.W.Frag) (_ : Ad) : Sp := spLaw K
def F__law_pool (_ : Ad) : AF := fun ags R _ => ∃ ns : List Int, ags = [.dat (.lst (ns.map .int))] ∧ ∀ p, PoolD p → R (.res (.lst p)) []
def t__law_pool (K : PySem.W.Frag) (A : Ad) : TS :=
  (tRet (tLst (tCons (tCB (cList K) (tCons (tVar 0) tNil)) (tCons (tC (.int 0)) (tCons (tC (.int 0)) (tCons (tC (.int 0)) (tCons (tC (.int 0)) tNil)))))))
abbrev sp__law_pool (K : PySem.W.Frag) (A : Ad) : Sp := Conc K (F__law_pool A)
def a__law_pool (A : Ad) : ATS :=
  (aRet (aLst (aCons (aCB fList (aCons (aVar 0) aNil)) (aCons (aC (.int 0)) (aCons (aC (.int 0)) (aCons (aC (.int 0)) (aCons (aC (.int 0)) aNil)))))))
theorem sim__law_pool {K : PySem.W.Frag} {A : Ad} (TX : Caught K A) {w0 : W} {E : XK} {X : XA} (hX : XOk K w0 E X) : SimS K w0 (t__law_pool K A) (a__law_pool A) :=
  (sim_ret (sim_lst (sim_cons (sim_cb sc_list (sim_cons sim_var sim_nil)) (sim_cons (sim_c fun w => .int _) (sim_cons (sim_c fun w => .int _) (sim_cons (sim_c fun w => .int _) (sim_cons (sim_c fun w => .int _) sim_nil)))))))
theorem ax__law_pool {A : Ad} {ags : List Ag} {R : Ag → List Res → Prop} {X : XA} (h : F__law_pool A ags R X) : a__law_pool A (aEnds (agS 0 ags).2.length R) (aStart 1 ags) := by
  obtain ⟨ns, rfl, k⟩ := h
  unfold a__law_pool
  dsimp only [aStart, agS, aEnds]
  walk_at "aw"
  refine s_list rfl ?_
  walk_at "aw"
  exact ⟨Nat.zero_le _, _, rfl, k _ ⟨ns, 0, 0, 0, 0, rfl, by decide, by decide, by decide, by decide⟩⟩
theorem pure__law_pool {K : PySem.W.Frag} {A : Ad} (TX : Caught K A) {vs : List V} {H : Hp} {Q : VK} {E : XK} (h : sp__law_pool K A vs H Q E) : t__law_pool K A { nx := fun _ H' => Q .non H', rt := Q } (L2.start ["_law_script"] vs) H :=
  fn_ok (a := fun X => a__law_pool A) (fun w0 X hX => sim__law_pool TX hX) (fun ags R X hF => ax__law_pool hF) h

/-! ### the law -/
theorem ArgD.flat {a : D} (h : ArgD a) : Flat 2 a := by
  rcases h with rfl | ⟨i, rfl⟩ | ⟨w, c, rfl⟩
  · exact .inl rfl
  · exact .inr (.inr (.inl ⟨i, rfl⟩))
  · refine .inr (.inr (.inr (.inr (.inl ⟨_, rfl, (show 2 < 100000 by decide), fun x hx => ?_⟩))))
    rcases List.mem_cons.mp hx with rfl | hx
    · exact .inr (.inr (.inr (.inl ⟨_, rfl⟩)))
    · rw [List.mem_singleton.mp hx]; exact .inr (.inr (.inr (.inl ⟨_, rfl⟩)))
theorem flat_tup {n : Nat} {l : List D} (hl : l.length < 100000) (h : ∀ x ∈ l, Flat n x) : Flat (n + 1) (.tup l) := .inr (.inr (.inr (.inr (.inl ⟨l, rfl, hl, h⟩))))
theorem flat_lst {n : Nat} {l : List D} (hl : l.length < 100000) (h : ∀ x ∈ l, Flat n x) : Flat (n + 1) (.lst l) := .inr (.inr (.inr (.inr (.inr ⟨l, rfl, hl, h⟩))))
theorem ActD.flat {kvs : List (Key × D)} {c : Nat} (hc : c < 100000) : ∀ {n : Nat} {d : D}, ActD kvs c n d → Flat (2 * n + 1) d
  | 0, _, h => h.elim
  | n + 1, d, ⟨g, s, a, f, e, _, _, ha, hf, hx⟩ => by
    subst e
    refine flat_tup (n := 2 * n + 2) (by show 4 < 100000; decide) fun x hm => ?_
    rcases List.mem_cons.mp hm with rfl | hm
    · exact .inr (.inr (.inr (.inl ⟨_, rfl⟩)))
    rcases List.mem_cons.mp hm with rfl | hm
    · exact .inr (.inr (.inr (.inl ⟨_, rfl⟩)))
    rcases List.mem_cons.mp hm with rfl | hm
    · exact ha.flat.up (by omega)
    rw [List.mem_singleton.mp hm]
    exact flat_tup (Nat.lt_of_le_of_lt hf hc) fun y hy => ActD.flat hc (hx y hy)

def t_law (K : PySem.W.Frag) (A : Ad) : TS :=
  (tSeq (tAsg (tCall (sp__law_pool K A) [] E0 (tCons (tVar 0) tNil)) (gName 1))
  (tSeq (tAsg (tCall (sp__law_lore K A) [] E0 (tCons (tVar 1) (tCons (tC (.int 3)) (tCons (tC (.int 2)) tNil)))) (gName 2))
  (tSeq (tAsg (tTup tNil) (gName 3))
  (tSeq (tFor (iRng1 (tCons (tCall (sp__law_draw K A) [] E0 (tCons (tVar 1) (tCons (tC (.int 6)) tNil))) tNil)) (gName 4)
  (tAsg (tOp (oAddX K) (tVar 3) (tTup (tCons (tCall (sp__law_rich K A) [] E0 (tCons (tVar 1) (tCons (tVar 2) tNil))) tNil))) (gName 3)))
  (tSeq (tAsg (tCall (sp__law_book K A) [] E0 (tCons (tVar 2) tNil)) (gName 5))
  (tSeq (tFor (iAny K (tLst (tCons (tTup (tCons (tC (.str "done")) (tCons (tC (.str "error")) tNil))) (tCons (tTup (tCons (tC (.str "error")) tNil)) (tCons (tTup tNil) (tCons (tTup (tCons (tC (.str "done")) tNil)) tNil)))))) (gName 6)
  (tFor (iAny K (tLst (tCons (tVar 3) (tCons (tSl (oSlX K) (tVar 3) tNoPart (tPart (tUn oNeg (tC (.int 1))))) (tCons (tVar 3) tNil))))) (gName 7)
  (tSeq (tAsg (tCall (sp__law_keep K A) [] E0 (tCons (tCall (sp__law_normal K A) [] E0 (tCons (tVar 7) (tCons (tOp (oIxX K) (tVar 2) (tC (.int 1))) tNil))) (tCons (tVar 6) (tCons (tOp (oIxX K) (tVar 2) (tC (.int 1))) tNil)))) (gName 8))
  (tSeq (tAsg (tCB (cList K) (tCons (tVar 7) tNil)) (gName 9))
  (tSeq (tIfS (tOr (tNot (tB (tCall (sp__law_same K A) [] E0 (tCons (tCall (sp_live K A) [] E0 (tCons (tVar 7) (tCons (tVar 6) (tCons (tVar 5) tNil)))) (tCons (tVar 8) tNil))))) (tNot (tB (tCall (sp__law_same K A) [] E0 (tCons (tCall (sp_live K A) [] E0 (tCons (tVar 9) (tCons (tVar 6) (tCons (tVar 5) tNil)))) (tCons (tVar 8) tNil))))))
  (tRet (tC (.bl false)))
  tNext)
  (tSeq (tIfS (tNot (tB (tCall (sp__law_same K A) [] E0 (tCons (tVar 9) (tCons (tCB (cList K) (tCons (tVar 7) tNil)) tNil)))))
  (tRet (tC (.bl false)))
  tNext)
  (tIfS (tNot (tB (tCall (sp__law_same K A) [] E0 (tCons (tCall (sp_live K A) [] E0 (tCons (tVar 8) (tCons (tVar 6) (tCons (tVar 5) tNil)))) (tCons (tVar 8) tNil)))))
  (tRet (tC (.bl false)))
  tNext)))))))
  (tRet (tC (.bl true)))))))))
def a_law (A : Ad) : ATS :=
  (aSeq (aAsg (aCB (aFn [false] (F__law_pool A) X0) (aCons (aVar 0) aNil)) (aName 1))
  (aSeq (aAsg (aCB (aFn [true, false, false] (F__law_lore A) X0) (aCons (aVar 1) (aCons (aC (.int 3)) (aCons (aC (.int 2)) aNil)))) (aName 2))
  (aSeq (aAsg (aTup aNil) (aName 3))
  (aSeq (aForT (iRng1A (aCons (aCB (aFn [true, false] (F__law_draw A) X0) (aCons (aVar 1) (aCons (aC (.int 6)) aNil))) aNil)) (aName 4)
  (aAsg (aOp fAdd (aVar 3) (aTup (aCons (aCB (aFn [true, false] (F__law_rich A) X0) (aCons (aVar 1) (aCons (aVar 2) aNil))) aNil))) (aName 3)))
  (aSeq (aAsg (aCB (aFn [false] (F__law_book A) X0) (aCons (aVar 2) aNil)) (aName 5))
  (aSeq (aForT (iLstA (aLst (aCons (aTup (aCons (aC (.str "done")) (aCons (aC (.str "error")) aNil))) (aCons (aTup (aCons (aC (.str "error")) aNil)) (aCons (aTup aNil) (aCons (aTup (aCons (aC (.str "done")) aNil)) aNil)))))) (aName 6)
  (aForT (iLstA (aLst (aCons (aVar 3) (aCons (aSl fSl (aVar 3) aNoPart (aPart (aUn fNeg (aC (.int 1))))) (aCons (aVar 3) aNil))))) (aName 7)
  (aSeq (aAsg (aCB (aFn [false, false, false] (F__law_keep A) X0) (aCons (aCB (aFn [false, false] (F__law_normal A) X0) (aCons (aVar 7) (aCons (aOp fIx (aVar 2) (aC (.int 1))) aNil))) (aCons (aVar 6) (aCons (aOp fIx (aVar 2) (aC (.int 1))) aNil)))) (aName 8))
  (aSeq (aAsg (aCB fList (aCons (aVar 7) aNil)) (aName 9))
  (aSeq (aIfS (aOr (aNot (aTest (aCB (aFn [true, true] (F__law_same A) X0) (aCons (aCB (aFn [false, false, true] (F_live A) X0) (aCons (aVar 7) (aCons (aVar 6) (aCons (aVar 5) aNil)))) (aCons (aVar 8) aNil))))) (aNot (aTest (aCB (aFn [true, true] (F__law_same A) X0) (aCons (aCB (aFn [false, false, true] (F_live A) X0) (aCons (aVar 9) (aCons (aVar 6) (aCons (aVar 5) aNil)))) (aCons (aVar 8) aNil))))))
  (aRet (aC (.bl false)))
  aNext)
  (aSeq (aIfS (aNot (aTest (aCB (aFn [true, true] (F__law_same A) X0) (aCons (aVar 9) (aCons (aCB fList (aCons (aVar 7) aNil)) aNil)))))
  (aRet (aC (.bl false)))
  aNext)
  (aIfS (aNot (aTest (aCB (aFn [true, true] (F__law_same A) X0) (aCons (aCB (aFn [false, false, true] (F_live A) X0) (aCons (aVar 8) (aCons (aVar 6) (aCons (aVar 5) aNil)))) (aCons (aVar 8) aNil)))))
  (aRet (aC (.bl false)))
  aNext)))))))
  (aRet (aC (.bl true)))))))))
theorem sim_law {K : PySem.W.Frag} {A : Ad} (TX : Caught K A) {w0 : W} {E : XK} {X : XA} (hX : XOk K w0 E X) : SimS K w0 (t_law K A) (a_law A) :=
  (sim_seq (sim_asg (sim_call xok0 (sim_cons sim_var sim_nil)) sim_name)
  (sim_seq (sim_asg (sim_call xok0 (sim_cons sim_var (sim_cons (sim_c fun w => .int _) (sim_cons (sim_c fun w => .int _) sim_nil)))) sim_name)
  (sim_seq (sim_asg (sim_tup sim_nil) sim_name)
  (sim_seq (sim_forT (si_rng1 (sim_cons (sim_call xok0 (sim_cons sim_var (sim_cons (sim_c fun w => .int _) sim_nil))) sim_nil)) sim_name
  (sim_asg (sim_op so_add sim_var (sim_tup (sim_cons (sim_call xok0 (sim_cons sim_var (sim_cons sim_var sim_nil))) sim_nil))) sim_name))
  (sim_seq (sim_asg (sim_call xok0 (sim_cons sim_var sim_nil)) sim_name)
  (sim_seq (sim_forT (si_lst (sim_lst (sim_cons (sim_tup (sim_cons (sim_c fun w => .str _) (sim_cons (sim_c fun w => .str _) sim_nil))) (sim_cons (sim_tup (sim_cons (sim_c fun w => .str _) sim_nil)) (sim_cons (sim_tup sim_nil) (sim_cons (sim_tup (sim_cons (sim_c fun w => .str _) sim_nil)) sim_nil)))))) sim_name
  (sim_forT (si_lst (sim_lst (sim_cons sim_var (sim_cons (sim_sl sl_X sim_var sim_noPart (sim_part (sim_un su_neg (sim_c fun w => .int _)))) (sim_cons sim_var sim_nil))))) sim_name
  (sim_seq (sim_asg (sim_call xok0 (sim_cons (sim_call xok0 (sim_cons sim_var (sim_cons (sim_op so_ix sim_var (sim_c fun w => .int _)) sim_nil))) (sim_cons sim_var (sim_cons (sim_op so_ix sim_var (sim_c fun w => .int _)) sim_nil)))) sim_name)
  (sim_seq (sim_asg (sim_cb sc_list (sim_cons sim_var sim_nil)) sim_name)
  (sim_seq (sim_ifS (sim_or (sim_not (sim_tB (sim_call xok0 (sim_cons (sim_call xok0 (sim_cons sim_var (sim_cons sim_var (sim_cons sim_var sim_nil)))) (sim_cons sim_var sim_nil))))) (sim_not (sim_tB (sim_call xok0 (sim_cons (sim_call xok0 (sim_cons sim_var (sim_cons sim_var (sim_cons sim_var sim_nil)))) (sim_cons sim_var sim_nil))))))
  (sim_ret (sim_c fun w => .bl _))
  sim_next)
  (sim_seq (sim_ifS (sim_not (sim_tB (sim_call xok0 (sim_cons sim_var (sim_cons (sim_cb sc_list (sim_cons sim_var sim_nil)) sim_nil)))))
  (sim_ret (sim_c fun w => .bl _))
  sim_next)
  (sim_ifS (sim_not (sim_tB (sim_call xok0 (sim_cons (sim_call xok0 (sim_cons sim_var (sim_cons sim_var (sim_cons sim_var sim_nil)))) (sim_cons sim_var sim_nil)))))
  (sim_ret (sim_c fun w => .bl _))
  sim_next)))))))
  (sim_ret (sim_c fun w => .bl _))))))))
theorem ax_law {A : Ad} {ns : List Int} (hl : ns.length ≤ 63) : a_law A { nx := fun _ => False, rt := fun s _ => s = .dat (.bl true) } (aStart 10 [lawD ns]) := by
  unfold a_law lawD
  walk_at "st"
  walk_at "aw"
  refine ⟨ns, rfl, fun p hp => ?_⟩
  walk_at "aw"
  refine ⟨p, 3, 2, rfl, hp, by decide, by decide, by decide, by decide, fun names kvs ps p1 hL hp1 => ?_⟩
  walk_at "aw"
  refine ⟨p1, 6, rfl, hp1, by decide, by decide, fun m p2 m0 m1 hp2 => ?_⟩
  walk_at "aw"
  refine s_kRng rfl (by omega) (by omega) ⟨trivial, loopT (fun i s' => ∃ (p : List D) (ws : List D) (r1 : Res) (x4 : Option Sl), s' = ⟨[some (.dat (.lst (ns.map .int))), some (.res 0), some (.res 1), some (.dat (.tup ws)), x4, none, none, none, none, none], [.lst p, r1]⟩ ∧
    (r1 = .lst [.lst (names.map .str), .dct kvs, .lst (ps.map pairD)] ∨ r1 = .fz (loreD names kvs ps)) ∧ PoolD p ∧ ws.length = i ∧ ∀ x ∈ ws, ActD kvs 3 3 x) ⟨p2, [], _, none, rfl, .inl rfl, hp2, rfl, fun x h => nomatch h⟩ ?_ ?_⟩
  · rintro i d s' N hd hN ⟨p3, ws, r1, x4, rfl, hr, hp3, hws, hx⟩
    obtain ⟨hi, rfl⟩ := rng_get hd
    rcases hr with rfl | rfl
    all_goals
      walk_at "aw"
      refine ⟨p3, names, kvs, ps, rfl, hp3, hL.r, fun d p4 hd4 hp4 => ?_⟩
      walk_at "aw"
      refine s_addT rfl rfl (sz1m (by rw [List.length_singleton]; omega)) ?_
      walk_at "aw"
      refine hN _ ⟨p4, ws ++ [d], _, _, rfl, .inr rfl, hp4, by rw [List.length_append, hws]; rfl, fun x hm => ?_⟩ trivial
      rcases List.mem_append.mp hm with hm | hm
      · exact hx x hm
      · rw [List.mem_singleton.mp hm]; exact hd4
  · rintro s' ⟨p3, ws, r1, x4, rfl, hr, hp3, hws, hx⟩
    have hw5 : ws.length ≤ 5 := by
      have : (rngD 0 m.toNat).length = m.toNat := by unfold rngD; simp
      omega
    refine s_cut (fun s' => ∃ x4 : Option Sl, s' = ⟨[some (.dat (.lst (ns.map .int))), some (.res 0), some (.res 1), some (.dat (.tup ws)), x4, some (.res 2), none, none, none, none], [.lst p3, .fz (loreD names kvs ps), bookI A kvs (.dct (ps.map cellK))]⟩) (fun N hN => ?_) ?_
    · rcases hr with rfl | rfl
      all_goals
        walk_at "aw"
        refine ⟨names, kvs, ps, rfl, hL, ?_⟩
        walk_at "aw"
        exact hN _ ⟨_, rfl⟩
    · rintro s' ⟨x4, rfl⟩
      walk_at "aw"
      refine s_kLst rfl ⟨.inl rfl, ?_⟩
      refine loopT (fun i s' => ∃ x4 x6 x7 x8 x9 : Option Sl, s' = ⟨[some (.dat (.lst (ns.map .int))), some (.res 0), some (.res 1), some (.dat (.tup ws)), x4, some (.res 2), x6, x7, x8, x9],
        [.lst p3, .fz (loreD names kvs ps), bookI A kvs (.dct (ps.map cellK)), .lst [.tup [.str "done", .str "error"], .tup [.str "error"], .tup [], .tup [.str "done"]]]⟩) ⟨x4, none, none, none, none, rfl⟩ ?_ ?_
      · rintro i d s' N hd hN ⟨x4, x6, x7, x8, x9, rfl⟩
        obtain ⟨st, rfl⟩ : ∃ st : List Str, d = .tup (st.map .str) := by
          have hm := List.mem_of_getElem? hd
          rcases List.mem_cons.mp hm with rfl | hm
          · exact ⟨["done", "error"], rfl⟩
          rcases List.mem_cons.mp hm with rfl | hm
          · exact ⟨["error"], rfl⟩
          rcases List.mem_cons.mp hm with rfl | hm
          · exact ⟨[], rfl⟩
          rw [List.mem_singleton.mp hm]
          exact ⟨["done"], rfl⟩
        walk_at "aw"
        refine s_slT rfl ?_
        walk_at "aw"
        refine s_kLst rfl ⟨.inl rfl, ?_⟩
        refine loopT (fun i s' => ∃ x4 x7 x8 x9 : Option Sl, s' = ⟨[some (.dat (.lst (ns.map .int))), some (.res 0), some (.res 1), some (.dat (.tup ws)), x4, some (.res 2), some (.dat (.tup (st.map .str))), x7, x8, x9],
          [.lst p3, .fz (loreD names kvs ps), bookI A kvs (.dct (ps.map cellK)), .lst [.tup [.str "done", .str "error"], .tup [.str "error"], .tup [], .tup [.str "done"]], .lst [.tup ws, .tup (An.cutD ws none (some (-1))), .tup ws]]⟩) ⟨x4, _, _, _, rfl⟩ ?_ ?_
        · rintro i d s' N2 hd2 hN2 ⟨x4, x7, x8, x9, rfl⟩
          obtain ⟨us, rfl, hu, hul⟩ : ∃ us, d = .tup us ∧ (∀ x ∈ us, ActD kvs 3 3 x) ∧ us.length ≤ ws.length := by
            have hm := List.mem_of_getElem? hd2
            rcases List.mem_cons.mp hm with rfl | hm
            · exact ⟨ws, rfl, hx, Nat.le_refl _⟩
            rcases List.mem_cons.mp hm with rfl | hm
            · refine ⟨_, rfl, fun x h => hx x (List.mem_of_mem_drop (List.mem_of_mem_take h)), ?_⟩
              unfold An.cutD
              rw [List.length_take, List.length_drop]
              omega
            rw [List.mem_singleton.mp hm]
            exact ⟨ws, rfl, hx, Nat.le_refl _⟩
          have hokU : OkN (kwOf kvs) 3 us := OkN.of_bnd hu (by omega) (by show us.length * 518 ≤ 500000; omega)
          have hlD : (normalD (kwOf kvs) 4 us).length ≤ 2590 := Nat.le_trans (normal_len hu) (by show us.length * 518 ≤ 2590; omega)
          have hactD : ∀ x ∈ normalD (kwOf kvs) 4 us, ActD kvs 258 3 x := fun x h => (normal_act (c' := 258) (by decide) hu (by decide) x h).1
          have hnf := normal_nf (kw := kwOf kvs) hu
          have hlK : (keepD (kwOf kvs) (normalD (kwOf kvs) 4 us) st).length ≤ 2590 := Nat.le_trans keep_len hlD
          have hactK : ∀ x ∈ keepD (kwOf kvs) (normalD (kwOf kvs) 4 us) st, ActD kvs 258 3 x := fun x h => hactD x (keep_sub x h)
          have hnfK : ∀ x ∈ keepD (kwOf kvs) (normalD (kwOf kvs) 4 us) st, NFA (kwOf kvs) 3 x := fun x h => hnf x (keep_sub x h)
          have hokD : OkN (kwOf kvs) 3 (keepD (kwOf kvs) (normalD (kwOf kvs) 4 us) st) := OkN.of_nf (c := 258) (by decide) hactK hnfK (by omega)
          have hid : keepD (kwOf kvs) (normalD (kwOf kvs) 4 (keepD (kwOf kvs) (normalD (kwOf kvs) 4 us) st)) st = keepD (kwOf kvs) (normalD (kwOf kvs) 4 us) st := by rw [nf_normal hnfK, keep_idem]
          have hfU : Flat 9 (.lst us) := Flat.up (flat_lst (by omega) fun x h => (hu x h).flat (by decide)) (by decide : 8 ≤ 9)
          have hfD : Flat 9 (.tup (keepD (kwOf kvs) (normalD (kwOf kvs) 4 us) st)) := Flat.up (flat_tup (by omega) fun x h => (hactK x h).flat (by decide)) (by decide : 8 ≤ 9)
          walk_at "aw"
          refine ⟨.tup us, us, kvs, 3, rfl, .inl rfl, hu, hokU, ?_⟩
          walk_at "aw"
          refine ⟨_, st, kvs, rfl, fun x h => (hactD x h).four, Nat.le_trans hlD (by decide), ?_⟩
          walk_at "aw"
          refine n_list rfl ?_
          walk_at "aw"
          refine ⟨.tup us, us, st, kvs, .dct (ps.map cellK), 3, rfl, .inl rfl, hu, hokU, ?_⟩
          walk_at "aw"
          refine ⟨.dat (.tup (keepD (kwOf kvs) (normalD (kwOf kvs) 4 us) st)), .dat (.tup (keepD (kwOf kvs) (normalD (kwOf kvs) 4 us) st)), .tup (keepD (kwOf kvs) (normalD (kwOf kvs) 4 us) st), rfl, .inl rfl, .inl rfl, hfD, ?_⟩
          walk_at "ai"
          refine ⟨.lst us, us, st, kvs, .dct (ps.map cellK), 3, rfl, .inr rfl, hu, hokU, ?_⟩
          walk_at "ai"
          refine ⟨.dat (.tup (keepD (kwOf kvs) (normalD (kwOf kvs) 4 us) st)), .dat (.tup (keepD (kwOf kvs) (normalD (kwOf kvs) 4 us) st)), .tup (keepD (kwOf kvs) (normalD (kwOf kvs) 4 us) st), rfl, .inl rfl, .inl rfl, hfD, ?_⟩
          walk_at "ai"
          refine n_list rfl ?_
          walk_at "ai"
          refine ⟨.dat (.lst us), .res (.lst us), .lst us, rfl, .inl rfl, .inr ⟨_, rfl, rfl⟩, hfU, ?_⟩
          walk_at "ai"
          refine ⟨.tup (keepD (kwOf kvs) (normalD (kwOf kvs) 4 us) st), keepD (kwOf kvs) (normalD (kwOf kvs) 4 us) st, st, kvs, .dct (ps.map cellK), 258, rfl, .inl rfl, hactK, hokD, ?_⟩
          rw [hid]
          walk_at "ai"
          refine ⟨.dat (.tup (keepD (kwOf kvs) (normalD (kwOf kvs) 4 us) st)), .dat (.tup (keepD (kwOf kvs) (normalD (kwOf kvs) 4 us) st)), .tup (keepD (kwOf kvs) (normalD (kwOf kvs) 4 us) st), rfl, .inl rfl, .inl rfl, hfD, ?_⟩
          walk_at "ai"
          exact hN2 _ ⟨_, _, _, _, rfl⟩ (.inl rfl)
        · rintro s' ⟨x4, x7, x8, x9, rfl⟩
          exact hN _ ⟨_, _, _, _, _, rfl⟩ (.inl rfl)
      · rintro s' ⟨x4, x6, x7, x8, x9, rfl⟩
        walk_at "aw"
        rfl
theorem pure_law {K : PySem.W.Frag} {A : Ad} (TX : Caught K A) {vs : List V} {H : Hp} {Q : VK} {E : XK} (h : sp_law K A vs H Q E) : t_law K A { nx := fun _ H' => Q .non H', rt := Q } (L2.start ["_law_script", "_law_pool_here", "_law_lore_here", "_law_word", "_law_k", "_law_book_here", "_law_states", "_law_actions", "_law_due", "_law_passed"] vs) H := by
  obtain ⟨_, rfl, a, ns, rfl, hS, hl, k⟩ := h
  exact law_ok (N := ["_law_script", "_law_pool_here", "_law_lore_here", "_law_word", "_law_k", "_law_book_here", "_law_states", "_law_actions", "_law_due", "_law_passed"]) (fun w0 => sim_law (E := E0) (X := X0) TX xok0) hS k (ax_law hl)

end Ov

set_option Elab.async false
set_option linter.all false
set_option maxRecDepth 100000
set_option maxHeartbeats 2000000
namespace Ov
open PySem PySem.Spec PyProof.Rows L2
def topS (i : Nat) : Stmt := PySem.Challenge.pw_exitdeeds_k31_live_words.main.body.getD i (.Pass ⟨0, 0, 0, 0⟩)
abbrev s_is_name : Stmt := topS 14
theorem sc_is_name : FnScope ["text", "letter"] ["text"] (defScope s_is_name) := ⟨rfl, rfl, rfl, by decide +kernel, rfl, by decide +kernel, by decide +kernel⟩
abbrev s_check_number : Stmt := topS 16
theorem sc_check_number : FnScope ["number"] ["number"] (defScope s_check_number) := ⟨rfl, rfl, rfl, by decide +kernel, rfl, by decide +kernel, by decide +kernel⟩
abbrev s_halves : Stmt := topS 18
theorem sc_halves : FnScope ["action", "guard", "step", "argument", "further"] ["action"] (defScope s_halves) := ⟨rfl, rfl, rfl, by decide +kernel, rfl, by decide +kernel, by decide +kernel⟩
abbrev s_at_most : Stmt := topS 34
theorem sc_at_most : FnScope ["entries", "most"] ["entries", "most"] (defScope s_at_most) := ⟨rfl, rfl, rfl, by decide +kernel, rfl, by decide +kernel, by decide +kernel⟩
abbrev s_Book___getitem__ : Stmt := inClass (topS 37) 9
theorem sc_Book___getitem__ : FnScope ["self", "name"] ["self", "name"] (defScope s_Book___getitem__) := ⟨rfl, rfl, rfl, by decide +kernel, rfl, by decide +kernel, by decide +kernel⟩
abbrev s_Book___init__ : Stmt := inClass (topS 37) 2
theorem sc_Book___init__ : FnScope ["self"] ["self"] (defScope s_Book___init__) := ⟨rfl, rfl, rfl, by decide +kernel, rfl, by decide +kernel, by decide +kernel⟩
abbrev s__law_pool : Stmt := topS 39
theorem sc__law_pool : FnScope ["_law_script"] ["_law_script"] (defScope s__law_pool) := ⟨rfl, rfl, rfl, by decide +kernel, rfl, by decide +kernel, by decide +kernel⟩
abbrev s__law_mixed : Stmt := topS 40
theorem sc__law_mixed : FnScope ["_law_cell", "_law_turn", "_law_limit", "_law_first", "_law_second", "_law_third"] ["_law_cell", "_law_turn", "_law_limit"] (defScope s__law_mixed) := ⟨rfl, rfl, rfl, by decide +kernel, rfl, by decide +kernel, by decide +kernel⟩
abbrev s__law_letters : Stmt := topS 42
theorem sc__law_letters : FnScope [] [] (defScope s__law_letters) := ⟨rfl, rfl, rfl, by decide +kernel, rfl, by decide +kernel, by decide +kernel⟩
abbrev s__law_halves : Stmt := topS 51
theorem sc__law_halves : FnScope ["_law_action_here"] ["_law_action_here"] (defScope s__law_halves) := ⟨rfl, rfl, rfl, by decide +kernel, rfl, by decide +kernel, by decide +kernel⟩
abbrev s__law_backward : Stmt := topS 52
theorem sc__law_backward : FnScope ["_law_rows", "_law_k"] ["_law_rows"] (defScope s__law_backward) := ⟨rfl, rfl, rfl, by decide +kernel, rfl, by decide +kernel, by decide +kernel⟩
abbrev s__law_below : Stmt := topS 53
theorem sc__law_below : FnScope ["_law_half", "_law_states", "_law_kinds"] ["_law_half", "_law_states", "_law_kinds"] (defScope s__law_below) := ⟨rfl, rfl, rfl, by decide +kernel, rfl, by decide +kernel, by decide +kernel⟩
abbrev s_check_name : Stmt := topS 15
theorem sc_check_name : FnScope ["name"] ["name"] (defScope s_check_name) := ⟨rfl, rfl, rfl, by decide +kernel, rfl, by decide +kernel, by decide +kernel⟩
abbrev s_all_halves : Stmt := topS 19
theorem sc_all_halves : FnScope ["word", "action", "half"] ["word"] (defScope s_all_halves) := ⟨rfl, rfl, rfl, by decide +kernel, rfl, by decide +kernel, by decide +kernel⟩
abbrev s__law_draw : Stmt := topS 41
theorem sc__law_draw : FnScope ["_law_pool_here", "_law_limit", "_law_cell", "_law_digit"] ["_law_pool_here", "_law_limit"] (defScope s__law_draw) := ⟨rfl, rfl, rfl, by decide +kernel, rfl, by decide +kernel, by decide +kernel⟩
abbrev s__law_keep : Stmt := topS 54
theorem sc__law_keep : FnScope ["_law_word", "_law_states", "_law_kinds", "_law_kept", "_law_half"] ["_law_word", "_law_states", "_law_kinds"] (defScope s__law_keep) := ⟨rfl, rfl, rfl, by decide +kernel, rfl, by decide +kernel, by decide +kernel⟩
abbrev s__law_split : Stmt := topS 55
theorem sc__law_split : FnScope ["_law_word", "_law_rows", "_law_action_here"] ["_law_word"] (defScope s__law_split) := ⟨rfl, rfl, rfl, by decide +kernel, rfl, by decide +kernel, by decide +kernel⟩
abbrev s_below : Stmt := topS 24
theorem sc_below : FnScope ["half", "states", "book", "guard", "step"] ["half", "states", "book"] (defScope s_below) := ⟨rfl, rfl, rfl, by decide +kernel, rfl, by decide +kernel, by decide +kernel⟩
abbrev s_check_kind : Stmt := topS 33
theorem sc_check_kind : FnScope ["kind"] ["kind"] (defScope s_check_kind) := ⟨rfl, rfl, rfl, by decide +kernel, rfl, by decide +kernel, by decide +kernel⟩
abbrev s_Book_add_cell : Stmt := inClass (topS 37) 5
theorem sc_Book_add_cell : FnScope ["self", "name", "size"] ["self", "name", "size"] (defScope s_Book_add_cell) := ⟨rfl, rfl, rfl, by decide +kernel, rfl, by decide +kernel, by decide +kernel⟩
abbrev s__law_name : Stmt := topS 43
theorem sc__law_name : FnScope ["_law_pool_here", "_law_signs", "_law_name_here", "_law_more", "_law_k"] ["_law_pool_here"] (defScope s__law_name) := ⟨rfl, rfl, rfl, by decide +kernel, rfl, by decide +kernel, by decide +kernel⟩
abbrev s__law_number : Stmt := topS 45
theorem sc__law_number : FnScope ["_law_pool_here"] ["_law_pool_here"] (defScope s__law_number) := ⟨rfl, rfl, rfl, by decide +kernel, rfl, by decide +kernel, by decide +kernel⟩
abbrev s_sifted : Stmt := topS 25
theorem sc_sifted : FnScope ["word", "states", "book", "found", "half"] ["word", "states", "book"] (defScope s_sifted) := ⟨rfl, rfl, rfl, by decide +kernel, rfl, by decide +kernel, by decide +kernel⟩
abbrev s_with_step : Stmt := topS 35
theorem sc_with_step : FnScope ["steps", "name", "kind"] ["steps", "name", "kind"] (defScope s_with_step) := ⟨rfl, rfl, rfl, by decide +kernel, rfl, by decide +kernel, by decide +kernel⟩
abbrev s__law_fresh : Stmt := topS 44
theorem sc__law_fresh : FnScope ["_law_pool_here", "_law_used", "_law_name_here", "_law_sign"] ["_law_pool_here", "_law_used"] (defScope s__law_fresh) := ⟨rfl, rfl, rfl, by decide +kernel, rfl, by decide +kernel, by decide +kernel⟩
abbrev s__law_kind : Stmt := topS 46
theorem sc__law_kind : FnScope ["_law_pool_here", "_law_choice"] ["_law_pool_here"] (defScope s__law_kind) := ⟨rfl, rfl, rfl, by decide +kernel, rfl, by decide +kernel, by decide +kernel⟩
abbrev s__law_argument : Stmt := topS 49
theorem sc__law_argument : FnScope ["_law_pool_here", "_law_lore_here", "_law_late", "_law_choice", "_law_cell"] ["_law_pool_here", "_law_lore_here", "_law_late"] (defScope s__law_argument) := ⟨rfl, rfl, rfl, by decide +kernel, rfl, by decide +kernel, by decide +kernel⟩
abbrev s_live_halves : Stmt := topS 26
theorem sc_live_halves : FnScope ["word", "states", "book"] ["word", "states", "book"] (defScope s_live_halves) := ⟨rfl, rfl, rfl, by decide +kernel, rfl, by decide +kernel, by decide +kernel⟩
abbrev s_Book___setitem__ : Stmt := inClass (topS 37) 8
theorem sc_Book___setitem__ : FnScope ["self", "name", "kind"] ["self", "name", "kind"] (defScope s_Book___setitem__) := ⟨rfl, rfl, rfl, by decide +kernel, rfl, by decide +kernel, by decide +kernel⟩
abbrev s__law_lore : Stmt := topS 47
theorem sc__law_lore : FnScope ["_law_pool_here", "_law_steps", "_law_cells", "_law_names", "_law_kinds", "_law_k", "_law_pairs", "_law_name_here", "_law_pair"] ["_law_pool_here", "_law_steps", "_law_cells"] (defScope s__law_lore) := ⟨rfl, rfl, rfl, by decide +kernel, rfl, by decide +kernel, by decide +kernel⟩
abbrev s__law_book : Stmt := topS 48
theorem sc__law_book : FnScope ["_law_lore_here", "_law_book_here", "_law_name_here", "_law_pair"] ["_law_lore_here"] (defScope s__law_book) := ⟨rfl, rfl, rfl, by decide +kernel, rfl, by decide +kernel, by decide +kernel⟩
abbrev s__law_normal : Stmt := topS 56
theorem sc__law_normal : FnScope ["_law_word", "_law_kinds", "_law_rows", "_law_half", "_law_inner", "_law_many", "_law_k"] ["_law_word", "_law_kinds"] (defScope s__law_normal) := ⟨rfl, rfl, rfl, by decide +kernel, rfl, by decide +kernel, by decide +kernel⟩
abbrev s__law_action : Stmt := topS 50
theorem sc__law_action : FnScope ["_law_pool_here", "_law_lore_here", "_law_depth", "_law_guard", "_law_step", "_law_argument_here", "_law_further", "_law_k"] ["_law_pool_here", "_law_lore_here", "_law_depth"] (defScope s__law_action) := ⟨rfl, rfl, rfl, by decide +kernel, rfl, by decide +kernel, by decide +kernel⟩
abbrev s__law_rich : Stmt := topS 58
theorem sc__law_rich : FnScope ["_law_pool_here", "_law_lore_here", "_law_further", "_law_k", "_law_step"] ["_law_pool_here", "_law_lore_here"] (defScope s__law_rich) := ⟨rfl, rfl, rfl, by decide +kernel, rfl, by decide +kernel, by decide +kernel⟩
abbrev s__law_same : Stmt := topS 57
theorem sc__law_same : FnScope ["_law_actual", "_law_expected", "_law_k"] ["_law_actual", "_law_expected"] (defScope s__law_same) := ⟨rfl, rfl, rfl, by decide +kernel, rfl, by decide +kernel, by decide +kernel⟩
abbrev s_normal : Stmt := topS 27
theorem sc_normal : FnScope ["word", "book", "found", "guard", "step", "argument", "further", "inner", "at"] ["word", "book"] (defScope s_normal) := ⟨rfl, rfl, rfl, by decide +kernel, rfl, by decide +kernel, by decide +kernel⟩
abbrev s_live : Stmt := topS 28
theorem sc_live : FnScope ["word", "states", "book"] ["word", "states", "book"] (defScope s_live) := ⟨rfl, rfl, rfl, by decide +kernel, rfl, by decide +kernel, by decide +kernel⟩
abbrev s_law : Stmt := topS 59
theorem sc_law : FnScope ["_law_script", "_law_pool_here", "_law_lore_here", "_law_word", "_law_k", "_law_book_here", "_law_states", "_law_actions", "_law_due", "_law_passed"] ["_law_script"] (defScope s_law) := ⟨rfl, rfl, rfl, by decide +kernel, rfl, by decide +kernel, by decide +kernel⟩
theorem en_kind : PySem.ExS.FnOk "kind" := ⟨by decide, by decide, by decide, by decide⟩
theorem en_most : PySem.ExS.FnOk "most" := ⟨by decide, by decide, by decide, by decide⟩
theorem en_name : PySem.ExS.FnOk "name" := ⟨by decide, by decide, by decide, by decide⟩
theorem en_number : PySem.ExS.FnOk "number" := ⟨by decide, by decide, by decide, by decide⟩
theorem en_step : PySem.ExS.FnOk "step" := ⟨by decide, by decide, by decide, by decide⟩
structure Txt (P : Program) (K : PySem.W.Frag) (mg : Str → Option Value) (A : Ad) : Prop where
  n_all : mg "all" = none
  n_bool : mg "bool" = none
  n_int : mg "int" = none
  n_isinstance : mg "isinstance" = none
  n_len : mg "len" = none
  n_list : mg "list" = none
  n_range : mg "range" = none
  n_str : mg "str" = none
  n_tuple : mg "tuple" = none
  g_BOTH : ∃ u, mg "BOTH" = some u ∧ RelV (.ref A.t_BOTH) u
  g_CALMING : ∃ u, mg "CALMING" = some u ∧ RelV (.ref A.t_CALMING) u
  g_CELL_SIZES : ∃ u, mg "CELL_SIZES" = some u ∧ RelV (.ref A.t_CELL_SIZES) u
  g_DONE : ∃ u, mg "DONE" = some u ∧ RelV (.ref A.t_DONE) u
  g_GREATEST_NUMBER : ∃ u, mg "GREATEST_NUMBER" = some u ∧ RelV g_GREATEST_NUMBER u
  g_KINDS_WITH_NAME : ∃ u, mg "KINDS_WITH_NAME" = some u ∧ RelV (.ref A.t_KINDS_WITH_NAME) u
  g_KINDS_WITH_NUMBER : ∃ u, mg "KINDS_WITH_NUMBER" = some u ∧ RelV (.ref A.t_KINDS_WITH_NUMBER) u
  g_LETTERS : ∃ u, mg "LETTERS" = some u ∧ RelV g_LETTERS u
  g_LETTERS_AND_DIGITS : ∃ u, mg "LETTERS_AND_DIGITS" = some u ∧ RelV g_LETTERS_AND_DIGITS u
  g_LONGEST_NAME : ∃ u, mg "LONGEST_NAME" = some u ∧ RelV g_LONGEST_NAME u
  c_BadKind : mg "BadKind" = some (.ref A.c_BadKind)
  c_BadName : mg "BadName" = some (.ref A.c_BadName)
  c_BadNumber : mg "BadNumber" = some (.ref A.c_BadNumber)
  c_Book : mg "Book" = some (.ref A.c_Book)
  c_Clash : mg "Clash" = some (.ref A.c_Clash)
  c_TooLarge : mg "TooLarge" = some (.ref A.c_TooLarge)
  c_UnknownStep : mg "UnknownStep" = some (.ref A.c_UnknownStep)
  e_BadKind : PySem.ExS.ETxt P K mg "BadKind" "kind" A.c_BadKind A.i_BadKind
  e_BadName : PySem.ExS.ETxt P K mg "BadName" "name" A.c_BadName A.i_BadName
  e_BadNumber : PySem.ExS.ETxt P K mg "BadNumber" "number" A.c_BadNumber A.i_BadNumber
  e_Clash : PySem.ExS.ETxt P K mg "Clash" "name" A.c_Clash A.i_Clash
  e_TooLarge : PySem.ExS.ETxt P K mg "TooLarge" "most" A.c_TooLarge A.i_TooLarge
  e_UnknownStep : PySem.ExS.ETxt P K mg "UnknownStep" "step" A.c_UnknownStep A.i_UnknownStep
  k_Book : Cls K A.c_Book
  m_Book : MkC K mg "Book" A.c_Book
  q_Book : PySem.W.noSeq K A.c_Book = true
  r_Book : ClX.CRead K A.c_Book (.type "type")
  f_Book__sizes : NoAttr K A.c_Book "_sizes"
  f_Book__steps : NoAttr K A.c_Book "_steps"
  v_Book_CELLS : ∃ u, ClX.CVal K A.c_Book (.type "type") "CELLS" (.int 2) u
  v_Book_STEPS : ∃ u, ClX.CVal K A.c_Book (.type "type") "STEPS" (.int 12) u
section
variable {P : Program} {w : World} {K : PySem.W.Frag} {mg : Str → Option Value} {base : Heap} {A : Ad}
theorem ok_is_name (T : Txt P K mg A) (TX : Caught K A) (h : Has K mg "is_name" s_is_name ["text"]) : Cal P w K mg base CX0 1 "is_name" ["text"] (sp_is_name K A) := by
  refine h.ok (k := 0) sc_is_name (fun vs H Q E h => by first | exact An.len_conc (fun ags R X hF => by first | (obtain ⟨rfl, _⟩ := hF; rfl) | (obtain ⟨_, rfl, _⟩ := hF; rfl) | (obtain ⟨_, _, rfl, _⟩ := hF; rfl) | (obtain ⟨_, _, _, rfl, _⟩ := hF; rfl) | (obtain ⟨_, _, _, _, rfl, _⟩ := hF; rfl) | (obtain ⟨_, _, _, _, _, rfl, _⟩ := hF; rfl) | (obtain ⟨_, _, _, _, _, _, rfl, _⟩ := hF; rfl) | (obtain ⟨_, _, _, _, _, _, _, rfl, _⟩ := hF; rfl) | (obtain ⟨_, _, _, _, _, _, _, _, rfl, _⟩ := hF; rfl)) h | (obtain ⟨_, rfl, _⟩ := h; rfl) | (obtain ⟨_, _, rfl, _⟩ := h; rfl) | (obtain ⟨_, _, _, rfl, _⟩ := h; rfl) | (obtain ⟨_, _, _, _, rfl, _⟩ := h; rfl) | (obtain ⟨rfl, _⟩ := h; rfl)) fun f cdv A' outer s H vs Q E hr hsp => ⟨t_is_name K A, ?_, pure_is_name TX hsp⟩
  have hu_ := hu65 hr
  unfold t_is_name
  exact (pss_cons (ps_if (PW.pt (pw_or (pt_not (pt_chain op_oLe op_oLe pe_int (pe_callB call_cLenX rfl T.n_len bi_len (pa_cons (pv 0) pa_nil)) (pe_gs rfl T.g_LONGEST_NAME))) (pw_or1 (pt_cmpR (op_oNotInX hu_) (pe_ix (ix_oIxX hu_) (pv 0) pe_int (fun _ _ => rfl)) (pe_gs rfl T.g_LETTERS) rfl))))
  (pss_one (ps_ret pe_bl))
  pss_nil)
  (pss_one (ps_ret (pe_callB (cr_all rfl) rfl T.n_all bi_all (pa_cons (pe_lc rfl sc_is_name.nd (own := [("letter", 1)]) (g := (gName 1)) (tt := tYes) (te := (tOp (oInX K) (tVar 1) (tC g_LETTERS_AND_DIGITS))) (pi_any (pv 0)) (blkOk_by (own := [("letter", 1)]) (N := ["text", "letter"]) (sc := defScope s_is_name) (by decide +kernel)) (fun _ _ _ _ _ => (pg_name (i := 1) sc_is_name.nd rfl (Or.inl rfl))) (fun _ _ _ _ _ => pts_nil) (fun _ _ _ _ _ => (pe_cmpR (op_oInX hu_) (pv 1) (pe_gs rfl T.g_LETTERS_AND_DIGITS) rfl))) pa_nil)))))
theorem ok_check_number (T : Txt P K mg A) (TX : Caught K A) (h : Has K mg "check_number" s_check_number ["number"]) : Cal P w K mg base (L2.CX P w) 1 "check_number" ["number"] (sp_check_number K A) := by
  refine h.okX (k := 0) sc_check_number (fun vs H Q E h => by first | exact An.len_conc (fun ags R X hF => by first | (obtain ⟨rfl, _⟩ := hF; rfl) | (obtain ⟨_, rfl, _⟩ := hF; rfl) | (obtain ⟨_, _, rfl, _⟩ := hF; rfl) | (obtain ⟨_, _, _, rfl, _⟩ := hF; rfl) | (obtain ⟨_, _, _, _, rfl, _⟩ := hF; rfl) | (obtain ⟨_, _, _, _, _, rfl, _⟩ := hF; rfl) | (obtain ⟨_, _, _, _, _, _, rfl, _⟩ := hF; rfl) | (obtain ⟨_, _, _, _, _, _, _, rfl, _⟩ := hF; rfl) | (obtain ⟨_, _, _, _, _, _, _, _, rfl, _⟩ := hF; rfl)) h | (obtain ⟨_, rfl, _⟩ := h; rfl) | (obtain ⟨_, _, rfl, _⟩ := h; rfl) | (obtain ⟨_, _, _, rfl, _⟩ := h; rfl) | (obtain ⟨_, _, _, _, rfl, _⟩ := h; rfl) | (obtain ⟨rfl, _⟩ := h; rfl)) fun f cdv A' outer s H vs Q E hr hsp => ⟨t_check_number K A E, ?_, pure_check_number TX hsp⟩
  unfold t_check_number
  exact (pss_cons (ps_if (pt_not (pt_chain op_oLe op_oLe pe_int (pv 0) (pe_gs rfl T.g_GREATEST_NUMBER)))
  (pss_one (ps_raiseE rfl T.e_BadNumber en_number hr (takes_of rfl rfl rfl rfl) (pa_cons (pv 0) pa_nil) rfl (by decide)))
  pss_nil)
  (pss_one (ps_ret (pv 0))))
theorem ok_halves (T : Txt P K mg A) (TX : Caught K A) (h : Has K mg "halves" s_halves ["action"]) : Cal P w K mg base CX0 1 "halves" ["action"] (sp_halves K A) := by
  refine h.ok (k := 0) sc_halves (fun vs H Q E h => by first | exact An.len_conc (fun ags R X hF => by first | (obtain ⟨rfl, _⟩ := hF; rfl) | (obtain ⟨_, rfl, _⟩ := hF; rfl) | (obtain ⟨_, _, rfl, _⟩ := hF; rfl) | (obtain ⟨_, _, _, rfl, _⟩ := hF; rfl) | (obtain ⟨_, _, _, _, rfl, _⟩ := hF; rfl) | (obtain ⟨_, _, _, _, _, rfl, _⟩ := hF; rfl) | (obtain ⟨_, _, _, _, _, _, rfl, _⟩ := hF; rfl) | (obtain ⟨_, _, _, _, _, _, _, rfl, _⟩ := hF; rfl) | (obtain ⟨_, _, _, _, _, _, _, _, rfl, _⟩ := hF; rfl)) h | (obtain ⟨_, rfl, _⟩ := h; rfl) | (obtain ⟨_, _, rfl, _⟩ := h; rfl) | (obtain ⟨_, _, _, rfl, _⟩ := h; rfl) | (obtain ⟨_, _, _, _, rfl, _⟩ := h; rfl) | (obtain ⟨rfl, _⟩ := h; rfl)) fun f cdv A' outer s H vs Q E hr hsp => ⟨t_halves K A, ?_, pure_halves TX hsp⟩
  have hu_ := hu65 hr
  unfold t_halves
  exact (pss_cons (ps_asg (pv 0) (pg_tup rfl (pgs_cons (pg_name (i := 1) sc_halves.nd rfl (Or.inl rfl)) (pgs_cons (pg_name (i := 2) sc_halves.nd rfl (Or.inl rfl)) (pgs_cons (pg_name (i := 3) sc_halves.nd rfl (Or.inl rfl)) (pgs_cons (pg_name (i := 4) sc_halves.nd rfl (Or.inl rfl)) pgs_nil))))))
  (pss_cons (ps_if (pt_cmpR (op_oNe hu_) (pv 1) pe_str (nomark _))
  (pss_one (ps_ret (pe_tup (pa_cons (pv 0) pa_nil))))
  pss_nil)
  (pss_one (ps_ret (pe_tup (pa_cons (pe_tup (pa_cons pe_str (pa_cons (pv 2) (pa_cons (pv 3) (pa_cons (pv 4) pa_nil))))) (pa_cons (pe_tup (pa_cons pe_str (pa_cons (pv 2) (pa_cons (pv 3) (pa_cons (pe_tup pa_nil) pa_nil))))) pa_nil)))))))
theorem ok_at_most (T : Txt P K mg A) (TX : Caught K A) (h : Has K mg "at_most" s_at_most ["entries", "most"]) : Cal P w K mg base (L2.CX P w) 1 "at_most" ["entries", "most"] (sp_at_most K A) := by
  refine h.okX (k := 0) sc_at_most (fun vs H Q E h => by first | exact An.len_conc (fun ags R X hF => by first | (obtain ⟨rfl, _⟩ := hF; rfl) | (obtain ⟨_, rfl, _⟩ := hF; rfl) | (obtain ⟨_, _, rfl, _⟩ := hF; rfl) | (obtain ⟨_, _, _, rfl, _⟩ := hF; rfl) | (obtain ⟨_, _, _, _, rfl, _⟩ := hF; rfl) | (obtain ⟨_, _, _, _, _, rfl, _⟩ := hF; rfl) | (obtain ⟨_, _, _, _, _, _, rfl, _⟩ := hF; rfl) | (obtain ⟨_, _, _, _, _, _, _, rfl, _⟩ := hF; rfl) | (obtain ⟨_, _, _, _, _, _, _, _, rfl, _⟩ := hF; rfl)) h | (obtain ⟨_, rfl, _⟩ := h; rfl) | (obtain ⟨_, _, rfl, _⟩ := h; rfl) | (obtain ⟨_, _, _, rfl, _⟩ := h; rfl) | (obtain ⟨_, _, _, _, rfl, _⟩ := h; rfl) | (obtain ⟨rfl, _⟩ := h; rfl)) fun f cdv A' outer s H vs Q E hr hsp => ⟨t_at_most K A E, ?_, pure_at_most TX hsp⟩
  unfold t_at_most
  exact (pss_cons (ps_if (pt_cmpR op_oGt (pe_callB call_cLenX rfl T.n_len bi_len (pa_cons (pv 0) pa_nil)) (pv 1) (nomark _))
  (pss_one (ps_raiseE rfl T.e_TooLarge en_most hr (takes_of rfl rfl rfl rfl) (pa_cons (pv 1) pa_nil) rfl (by decide)))
  pss_nil)
  (pss_one (ps_ret (pv 0))))
theorem ok_Book___getitem__ (T : Txt P K mg A) (TX : Caught K A) (h : MHas K A.c_Book "__getitem__" "Book.__getitem__" s_Book___getitem__ ["self", "name"]) : MCal P w K mg base (L2.CX P w) 1 A.c_Book "__getitem__" ["self", "name"] (sp_Book___getitem__ K A) := by
  refine h.okX (k := 0) sc_Book___getitem__ (fun vs H Q E h => by first | exact An.len_conc (fun ags R X hF => by first | (obtain ⟨rfl, _⟩ := hF; rfl) | (obtain ⟨_, rfl, _⟩ := hF; rfl) | (obtain ⟨_, _, rfl, _⟩ := hF; rfl) | (obtain ⟨_, _, _, rfl, _⟩ := hF; rfl) | (obtain ⟨_, _, _, _, rfl, _⟩ := hF; rfl) | (obtain ⟨_, _, _, _, _, rfl, _⟩ := hF; rfl) | (obtain ⟨_, _, _, _, _, _, rfl, _⟩ := hF; rfl) | (obtain ⟨_, _, _, _, _, _, _, rfl, _⟩ := hF; rfl) | (obtain ⟨_, _, _, _, _, _, _, _, rfl, _⟩ := hF; rfl)) h | (obtain ⟨_, rfl, _⟩ := h; rfl) | (obtain ⟨_, _, rfl, _⟩ := h; rfl) | (obtain ⟨_, _, _, rfl, _⟩ := h; rfl) | (obtain ⟨_, _, _, _, rfl, _⟩ := h; rfl) | (obtain ⟨rfl, _⟩ := h; rfl)) fun f cdv A' outer s H vs Q E hr hsp => ⟨t_Book___getitem__ K A E, ?_, pure_Book___getitem__ TX hsp⟩
  have hu_ := hu65 hr
  unfold t_Book___getitem__
  exact (pss_cons (ps_if (pt_cmpR (op_oNotInX hu_) (pv 1) (pe_fldC T.k_Book T.f_Book__steps (pv 0)) rfl)
  (pss_one (ps_raiseE rfl T.e_UnknownStep en_step hr (takes_of rfl rfl rfl rfl) (pa_cons (pv 1) pa_nil) rfl (by decide)))
  pss_nil)
  (pss_one (ps_ret (pe_ix (ix_oIxX hu_) (pe_fldC T.k_Book T.f_Book__steps (pv 0)) (pv 1) (fun _ _ => rfl)))))
theorem ok_Book___init__ (T : Txt P K mg A) (TX : Caught K A) (h : MHas K A.c_Book "__init__" "Book.__init__" s_Book___init__ ["self"]) : MCal P w K mg base CX0 1 A.c_Book "__init__" ["self"] (sp_Book___init__ K A) := by
  refine h.ok (k := 0) sc_Book___init__ (fun vs H Q E h => by first | exact An.len_conc (fun ags R X hF => by first | (obtain ⟨rfl, _⟩ := hF; rfl) | (obtain ⟨_, rfl, _⟩ := hF; rfl) | (obtain ⟨_, _, rfl, _⟩ := hF; rfl) | (obtain ⟨_, _, _, rfl, _⟩ := hF; rfl) | (obtain ⟨_, _, _, _, rfl, _⟩ := hF; rfl) | (obtain ⟨_, _, _, _, _, rfl, _⟩ := hF; rfl) | (obtain ⟨_, _, _, _, _, _, rfl, _⟩ := hF; rfl) | (obtain ⟨_, _, _, _, _, _, _, rfl, _⟩ := hF; rfl) | (obtain ⟨_, _, _, _, _, _, _, _, rfl, _⟩ := hF; rfl)) h | (obtain ⟨_, rfl, _⟩ := h; rfl) | (obtain ⟨_, _, rfl, _⟩ := h; rfl) | (obtain ⟨_, _, _, rfl, _⟩ := h; rfl) | (obtain ⟨_, _, _, _, rfl, _⟩ := h; rfl) | (obtain ⟨rfl, _⟩ := h; rfl)) fun f cdv A' outer s H vs Q E hr hsp => ⟨t_Book___init__ K A, ?_, pure_Book___init__ TX hsp⟩
  unfold t_Book___init__
  exact (pss_cons (ps_fldC T.k_Book T.f_Book__steps (pv 0) pe_dnewK)
  (pss_one (ps_fldC T.k_Book T.f_Book__sizes (pv 0) pe_dnewK)))
theorem ok__law_pool (T : Txt P K mg A) (TX : Caught K A) (h : Has K mg "_law_pool" s__law_pool ["_law_script"]) : Cal P w K mg base CX0 1 "_law_pool" ["_law_script"] (sp__law_pool K A) := by
  refine h.ok (k := 0) sc__law_pool (fun vs H Q E h => by first | exact An.len_conc (fun ags R X hF => by first | (obtain ⟨rfl, _⟩ := hF; rfl) | (obtain ⟨_, rfl, _⟩ := hF; rfl) | (obtain ⟨_, _, rfl, _⟩ := hF; rfl) | (obtain ⟨_, _, _, rfl, _⟩ := hF; rfl) | (obtain ⟨_, _, _, _, rfl, _⟩ := hF; rfl) | (obtain ⟨_, _, _, _, _, rfl, _⟩ := hF; rfl) | (obtain ⟨_, _, _, _, _, _, rfl, _⟩ := hF; rfl) | (obtain ⟨_, _, _, _, _, _, _, rfl, _⟩ := hF; rfl) | (obtain ⟨_, _, _, _, _, _, _, _, rfl, _⟩ := hF; rfl)) h | (obtain ⟨_, rfl, _⟩ := h; rfl) | (obtain ⟨_, _, rfl, _⟩ := h; rfl) | (obtain ⟨_, _, _, rfl, _⟩ := h; rfl) | (obtain ⟨_, _, _, _, rfl, _⟩ := h; rfl) | (obtain ⟨rfl, _⟩ := h; rfl)) fun f cdv A' outer s H vs Q E hr hsp => ⟨t__law_pool K A, ?_, pure__law_pool TX hsp⟩
  unfold t__law_pool
  exact (pss_one (ps_ret (pe_lst (pa_cons (pe_callTy call_cList rfl T.n_list bi_list (pa_cons (pv 0) pa_nil)) (pa_cons pe_int (pa_cons pe_int (pa_cons pe_int (pa_cons pe_int pa_nil))))))))
theorem ok__law_mixed (T : Txt P K mg A) (TX : Caught K A) (h : Has K mg "_law_mixed" s__law_mixed ["_law_cell", "_law_turn", "_law_limit"]) : Cal P w K mg base CX0 1 "_law_mixed" ["_law_cell", "_law_turn", "_law_limit"] (sp__law_mixed K A) := by
  refine h.ok (k := 0) sc__law_mixed (fun vs H Q E h => by first | exact An.len_conc (fun ags R X hF => by first | (obtain ⟨rfl, _⟩ := hF; rfl) | (obtain ⟨_, rfl, _⟩ := hF; rfl) | (obtain ⟨_, _, rfl, _⟩ := hF; rfl) | (obtain ⟨_, _, _, rfl, _⟩ := hF; rfl) | (obtain ⟨_, _, _, _, rfl, _⟩ := hF; rfl) | (obtain ⟨_, _, _, _, _, rfl, _⟩ := hF; rfl) | (obtain ⟨_, _, _, _, _, _, rfl, _⟩ := hF; rfl) | (obtain ⟨_, _, _, _, _, _, _, rfl, _⟩ := hF; rfl) | (obtain ⟨_, _, _, _, _, _, _, _, rfl, _⟩ := hF; rfl)) h | (obtain ⟨_, rfl, _⟩ := h; rfl) | (obtain ⟨_, _, rfl, _⟩ := h; rfl) | (obtain ⟨_, _, _, rfl, _⟩ := h; rfl) | (obtain ⟨_, _, _, _, rfl, _⟩ := h; rfl) | (obtain ⟨rfl, _⟩ := h; rfl)) fun f cdv A' outer s H vs Q E hr hsp => ⟨t__law_mixed K A, ?_, pure__law_mixed TX hsp⟩
  unfold t__law_mixed
  exact (pss_cons (ps_set (i := 3) sc__law_mixed.nd rfl (Or.inl rfl) (pe_op op_oMod (pe_callTy call_cInt rfl T.n_int bi_int (pa_cons (pe_op op_oAddX (pe_op op_oAddX (pe_op op_oMul (pv 0) pe_int) (pe_op op_oMul (pv 1) pe_int)) pe_int) pa_nil)) pe_int))
  (pss_cons (ps_set (i := 4) sc__law_mixed.nd rfl (Or.inl rfl) (pe_op op_oMod (pe_callTy call_cInt rfl T.n_int bi_int (pa_cons (pe_op op_oAddX (pe_op op_oAddX (pe_op op_oMul (pv 3) pe_int) (pe_op op_oMul (pv 0) pe_int)) (pe_op op_oMul (pv 1) pe_int)) pa_nil)) pe_int))
  (pss_cons (ps_set (i := 5) sc__law_mixed.nd rfl (Or.inl rfl) (pe_op op_oMod (pe_callTy call_cInt rfl T.n_int bi_int (pa_cons (pe_op op_oAddX (pe_op op_oMul (pv 4) pe_int) (pe_op op_oDiv (pv 3) pe_int)) pa_nil)) pe_int))
  (pss_one (ps_ret (pe_op op_oMod (pe_callTy call_cInt rfl T.n_int bi_int (pa_cons (pv 5) pa_nil)) (pv 2)))))))
theorem ok__law_letters (T : Txt P K mg A) (TX : Caught K A) (h : Has K mg "_law_letters" s__law_letters []) : Cal P w K mg base CX0 1 "_law_letters" [] (sp__law_letters K A) := by
  refine h.ok (k := 0) sc__law_letters (fun vs H Q E h => by first | exact An.len_conc (fun ags R X hF => by first | (obtain ⟨rfl, _⟩ := hF; rfl) | (obtain ⟨_, rfl, _⟩ := hF; rfl) | (obtain ⟨_, _, rfl, _⟩ := hF; rfl) | (obtain ⟨_, _, _, rfl, _⟩ := hF; rfl) | (obtain ⟨_, _, _, _, rfl, _⟩ := hF; rfl) | (obtain ⟨_, _, _, _, _, rfl, _⟩ := hF; rfl) | (obtain ⟨_, _, _, _, _, _, rfl, _⟩ := hF; rfl) | (obtain ⟨_, _, _, _, _, _, _, rfl, _⟩ := hF; rfl) | (obtain ⟨_, _, _, _, _, _, _, _, rfl, _⟩ := hF; rfl)) h | (obtain ⟨_, rfl, _⟩ := h; rfl) | (obtain ⟨_, _, rfl, _⟩ := h; rfl) | (obtain ⟨_, _, _, rfl, _⟩ := h; rfl) | (obtain ⟨_, _, _, _, rfl, _⟩ := h; rfl) | (obtain ⟨rfl, _⟩ := h; rfl)) fun f cdv A' outer s H vs Q E hr hsp => ⟨t__law_letters K A, ?_, pure__law_letters TX hsp⟩
  unfold t__law_letters
  exact (pss_one (ps_ret pe_str))
theorem ok__law_halves (T : Txt P K mg A) (TX : Caught K A) (h : Has K mg "_law_halves" s__law_halves ["_law_action_here"]) : Cal P w K mg base CX0 1 "_law_halves" ["_law_action_here"] (sp__law_halves K A) := by
  refine h.ok (k := 0) sc__law_halves (fun vs H Q E h => by first | exact An.len_conc (fun ags R X hF => by first | (obtain ⟨rfl, _⟩ := hF; rfl) | (obtain ⟨_, rfl, _⟩ := hF; rfl) | (obtain ⟨_, _, rfl, _⟩ := hF; rfl) | (obtain ⟨_, _, _, rfl, _⟩ := hF; rfl) | (obtain ⟨_, _, _, _, rfl, _⟩ := hF; rfl) | (obtain ⟨_, _, _, _, _, rfl, _⟩ := hF; rfl) | (obtain ⟨_, _, _, _, _, _, rfl, _⟩ := hF; rfl) | (obtain ⟨_, _, _, _, _, _, _, rfl, _⟩ := hF; rfl) | (obtain ⟨_, _, _, _, _, _, _, _, rfl, _⟩ := hF; rfl)) h | (obtain ⟨_, rfl, _⟩ := h; rfl) | (obtain ⟨_, _, rfl, _⟩ := h; rfl) | (obtain ⟨_, _, _, rfl, _⟩ := h; rfl) | (obtain ⟨_, _, _, _, rfl, _⟩ := h; rfl) | (obtain ⟨rfl, _⟩ := h; rfl)) fun f cdv A' outer s H vs Q E hr hsp => ⟨t__law_halves K A, ?_, pure__law_halves TX hsp⟩
  have hu_ := hu65 hr
  unfold t__law_halves
  exact (pss_cons (ps_if (pt_cmpR (op_oNe hu_) (pe_ix (ix_oIxX hu_) (pv 0) pe_int (fun _ _ => rfl)) pe_str (nomark _))
  (pss_one (ps_ret (pe_lst (pa_cons (pv 0) pa_nil))))
  pss_nil)
  (pss_one (ps_ret (pe_lst (pa_cons (pe_tup (pa_cons pe_str (pa_cons (pe_ix (ix_oIxX hu_) (pv 0) pe_int (fun _ _ => rfl)) (pa_cons (pe_ix (ix_oIxX hu_) (pv 0) pe_int (fun _ _ => rfl)) (pa_cons (pe_ix (ix_oIxX hu_) (pv 0) pe_int (fun _ _ => rfl)) pa_nil))))) (pa_cons (pe_tup (pa_cons pe_str (pa_cons (pe_ix (ix_oIxX hu_) (pv 0) pe_int (fun _ _ => rfl)) (pa_cons (pe_ix (ix_oIxX hu_) (pv 0) pe_int (fun _ _ => rfl)) (pa_cons (pe_tup pa_nil) pa_nil))))) pa_nil))))))
theorem ok__law_backward (T : Txt P K mg A) (TX : Caught K A) (h : Has K mg "_law_backward" s__law_backward ["_law_rows"]) : Cal P w K mg base CX0 1 "_law_backward" ["_law_rows"] (sp__law_backward K A) := by
  refine h.ok (k := 0) sc__law_backward (fun vs H Q E h => by first | exact An.len_conc (fun ags R X hF => by first | (obtain ⟨rfl, _⟩ := hF; rfl) | (obtain ⟨_, rfl, _⟩ := hF; rfl) | (obtain ⟨_, _, rfl, _⟩ := hF; rfl) | (obtain ⟨_, _, _, rfl, _⟩ := hF; rfl) | (obtain ⟨_, _, _, _, rfl, _⟩ := hF; rfl) | (obtain ⟨_, _, _, _, _, rfl, _⟩ := hF; rfl) | (obtain ⟨_, _, _, _, _, _, rfl, _⟩ := hF; rfl) | (obtain ⟨_, _, _, _, _, _, _, rfl, _⟩ := hF; rfl) | (obtain ⟨_, _, _, _, _, _, _, _, rfl, _⟩ := hF; rfl)) h | (obtain ⟨_, rfl, _⟩ := h; rfl) | (obtain ⟨_, _, rfl, _⟩ := h; rfl) | (obtain ⟨_, _, _, rfl, _⟩ := h; rfl) | (obtain ⟨_, _, _, _, rfl, _⟩ := h; rfl) | (obtain ⟨rfl, _⟩ := h; rfl)) fun f cdv A' outer s H vs Q E hr hsp => ⟨t__law_backward K A, ?_, pure__law_backward TX hsp⟩
  have hu_ := hu65 hr
  unfold t__law_backward
  exact (pss_one (ps_ret (pe_lc rfl sc__law_backward.nd (own := [("_law_k", 1)]) (g := (gName 1)) (tt := tYes) (te := (tOp (oIxX K) (tVar 0) (tOp oSub (tOp oSub (tCB (cLenX K) (tCons (tVar 0) tNil)) (tC (.int 1))) (tVar 1)))) (pi_range1 rfl T.n_range (pa_cons (pe_callB call_cLenX rfl T.n_len bi_len (pa_cons (pv 0) pa_nil)) pa_nil)) (blkOk_by (own := [("_law_k", 1)]) (N := ["_law_rows", "_law_k"]) (sc := defScope s__law_backward) (by decide +kernel)) (fun _ _ _ _ _ => (pg_name (i := 1) sc__law_backward.nd rfl (Or.inl rfl))) (fun _ _ _ _ _ => pts_nil) (fun _ _ _ _ _ => (pe_ix (ix_oIxX hu_) (pv 0) (pe_op op_oSub (pe_op op_oSub (pe_callB call_cLenX rfl T.n_len bi_len (pa_cons (pv 0) pa_nil)) pe_int) (pv 1)) (fun _ _ => rfl))))))
theorem ok__law_below (T : Txt P K mg A) (TX : Caught K A) (h : Has K mg "_law_below" s__law_below ["_law_half", "_law_states", "_law_kinds"]) : Cal P w K mg base CX0 1 "_law_below" ["_law_half", "_law_states", "_law_kinds"] (sp__law_below K A) := by
  refine h.ok (k := 0) sc__law_below (fun vs H Q E h => by first | exact An.len_conc (fun ags R X hF => by first | (obtain ⟨rfl, _⟩ := hF; rfl) | (obtain ⟨_, rfl, _⟩ := hF; rfl) | (obtain ⟨_, _, rfl, _⟩ := hF; rfl) | (obtain ⟨_, _, _, rfl, _⟩ := hF; rfl) | (obtain ⟨_, _, _, _, rfl, _⟩ := hF; rfl) | (obtain ⟨_, _, _, _, _, rfl, _⟩ := hF; rfl) | (obtain ⟨_, _, _, _, _, _, rfl, _⟩ := hF; rfl) | (obtain ⟨_, _, _, _, _, _, _, rfl, _⟩ := hF; rfl) | (obtain ⟨_, _, _, _, _, _, _, _, rfl, _⟩ := hF; rfl)) h | (obtain ⟨_, rfl, _⟩ := h; rfl) | (obtain ⟨_, _, rfl, _⟩ := h; rfl) | (obtain ⟨_, _, _, rfl, _⟩ := h; rfl) | (obtain ⟨_, _, _, _, rfl, _⟩ := h; rfl) | (obtain ⟨rfl, _⟩ := h; rfl)) fun f cdv A' outer s H vs Q E hr hsp => ⟨t__law_below K A, ?_, pure__law_below TX hsp⟩
  have hu_ := hu65 hr
  unfold t__law_below
  exact (pss_cons (ps_if (PW.pt (pw_and (pt_cmpR (op_oInX hu_) (pe_ix (ix_oIxX hu_) (pv 0) pe_int (fun _ _ => rfl)) (pv 1) rfl) (pw_and1 (PW.pt (pw_or (pt_cmpR (op_oEq hu_) (pe_ix (ix_oIxX hu_) (pv 0) pe_int (fun _ _ => rfl)) pe_str (nomark _)) (pw_or1 (pt_cmpR (op_oInX hu_) (pe_ix (ix_oIxX hu_) (pe_ix (ix_oIxX hu_) (pv 2) (pe_ix (ix_oIxX hu_) (pv 0) pe_int (fun _ _ => rfl)) (fun _ _ => rfl)) pe_int (fun _ _ => rfl)) (pe_tup (pa_cons pe_str (pa_cons pe_str pa_nil))) rfl)))))))
  (pss_one (ps_ret (pe_tup (pa_cons pe_str (pa_cons pe_str pa_nil)))))
  pss_nil)
  (pss_one (ps_ret (pv 1))))
theorem ok_check_name (T : Txt P K mg A) (TX : Caught K A) (h : Has K mg "check_name" s_check_name ["name"]) (c_is_name : Cal P w K mg base CX0 1 "is_name" ["text"] (sp_is_name K A)) : Cal P w K mg base (L2.CX P w) 2 "check_name" ["name"] (sp_check_name K A) := by
  refine h.okX (k := 1) sc_check_name (fun vs H Q E h => by first | exact An.len_conc (fun ags R X hF => by first | (obtain ⟨rfl, _⟩ := hF; rfl) | (obtain ⟨_, rfl, _⟩ := hF; rfl) | (obtain ⟨_, _, rfl, _⟩ := hF; rfl) | (obtain ⟨_, _, _, rfl, _⟩ := hF; rfl) | (obtain ⟨_, _, _, _, rfl, _⟩ := hF; rfl) | (obtain ⟨_, _, _, _, _, rfl, _⟩ := hF; rfl) | (obtain ⟨_, _, _, _, _, _, rfl, _⟩ := hF; rfl) | (obtain ⟨_, _, _, _, _, _, _, rfl, _⟩ := hF; rfl) | (obtain ⟨_, _, _, _, _, _, _, _, rfl, _⟩ := hF; rfl)) h | (obtain ⟨_, rfl, _⟩ := h; rfl) | (obtain ⟨_, _, rfl, _⟩ := h; rfl) | (obtain ⟨_, _, _, rfl, _⟩ := h; rfl) | (obtain ⟨_, _, _, _, rfl, _⟩ := h; rfl) | (obtain ⟨rfl, _⟩ := h; rfl)) fun f cdv A' outer s H vs Q E hr hsp => ⟨t_check_name K A E, ?_, pure_check_name TX hsp⟩
  have hr_ : ∀ j, j ≤ 1 → Room j _ := fun j hj => hr.mono hj
  unfold t_check_name
  exact (pss_cons (ps_if (pt_not (pt_val (pe_fn c_is_name (hr_ 1 (by decide)) rfl (pa_cons (pv 0) pa_nil))))
  (pss_one (ps_raiseE rfl T.e_BadName en_name hr (takes_of rfl rfl rfl rfl) (pa_cons (pv 0) pa_nil) rfl (by decide)))
  pss_nil)
  (pss_one (ps_ret (pv 0))))
theorem ok_all_halves (T : Txt P K mg A) (TX : Caught K A) (h : Has K mg "all_halves" s_all_halves ["word"]) (c_halves : Cal P w K mg base CX0 1 "halves" ["action"] (sp_halves K A)) : Cal P w K mg base CX0 2 "all_halves" ["word"] (sp_all_halves K A) := by
  refine h.ok (k := 1) sc_all_halves (fun vs H Q E h => by first | exact An.len_conc (fun ags R X hF => by first | (obtain ⟨rfl, _⟩ := hF; rfl) | (obtain ⟨_, rfl, _⟩ := hF; rfl) | (obtain ⟨_, _, rfl, _⟩ := hF; rfl) | (obtain ⟨_, _, _, rfl, _⟩ := hF; rfl) | (obtain ⟨_, _, _, _, rfl, _⟩ := hF; rfl) | (obtain ⟨_, _, _, _, _, rfl, _⟩ := hF; rfl) | (obtain ⟨_, _, _, _, _, _, rfl, _⟩ := hF; rfl) | (obtain ⟨_, _, _, _, _, _, _, rfl, _⟩ := hF; rfl) | (obtain ⟨_, _, _, _, _, _, _, _, rfl, _⟩ := hF; rfl)) h | (obtain ⟨_, rfl, _⟩ := h; rfl) | (obtain ⟨_, _, rfl, _⟩ := h; rfl) | (obtain ⟨_, _, _, rfl, _⟩ := h; rfl) | (obtain ⟨_, _, _, _, rfl, _⟩ := h; rfl) | (obtain ⟨rfl, _⟩ := h; rfl)) fun f cdv A' outer s H vs Q E hr hsp => ⟨t_all_halves K A, ?_, pure_all_halves TX hsp⟩
  have hr_ : ∀ j, j ≤ 1 → Room j _ := fun j hj => hr.mono hj
  unfold t_all_halves
  exact (pss_one (ps_ret (pe_lc2 rfl sc_all_halves.nd (own := [("action", 1), ("half", 2)]) (vs1 := [2]) (g := (gName 1)) (tt := tYes) (g1 := (gName 2)) (tt1 := tYes) (te := (tVar 2)) (pi_any (pv 0)) (blkOk_by (own := [("action", 1), ("half", 2)]) (N := ["word", "action", "half"]) (sc := defScope s_all_halves) (by decide +kernel)) (by decide) (fun _ _ _ _ _ => (pg_name (i := 1) sc_all_halves.nd rfl (Or.inl rfl))) (fun _ _ _ _ _ => pts_nil) (fun _ _ _ _ _ => (pi_any (pe_fn c_halves (hr_ 1 (by decide)) rfl (pa_cons (pv 1) pa_nil)))) (fun _ _ _ _ _ => (pg_name (i := 2) sc_all_halves.nd rfl (Or.inl rfl))) (fun _ _ _ _ _ => pts_nil) (fun _ _ _ _ _ => (pv 2)))))
theorem ok__law_draw (T : Txt P K mg A) (TX : Caught K A) (h : Has K mg "_law_draw" s__law_draw ["_law_pool_here", "_law_limit"]) (c__law_mixed : Cal P w K mg base CX0 1 "_law_mixed" ["_law_cell", "_law_turn", "_law_limit"] (sp__law_mixed K A)) : Cal P w K mg base CX0 2 "_law_draw" ["_law_pool_here", "_law_limit"] (sp__law_draw K A) := by
  refine h.ok (k := 1) sc__law_draw (fun vs H Q E h => by first | exact An.len_conc (fun ags R X hF => by first | (obtain ⟨rfl, _⟩ := hF; rfl) | (obtain ⟨_, rfl, _⟩ := hF; rfl) | (obtain ⟨_, _, rfl, _⟩ := hF; rfl) | (obtain ⟨_, _, _, rfl, _⟩ := hF; rfl) | (obtain ⟨_, _, _, _, rfl, _⟩ := hF; rfl) | (obtain ⟨_, _, _, _, _, rfl, _⟩ := hF; rfl) | (obtain ⟨_, _, _, _, _, _, rfl, _⟩ := hF; rfl) | (obtain ⟨_, _, _, _, _, _, _, rfl, _⟩ := hF; rfl) | (obtain ⟨_, _, _, _, _, _, _, _, rfl, _⟩ := hF; rfl)) h | (obtain ⟨_, rfl, _⟩ := h; rfl) | (obtain ⟨_, _, rfl, _⟩ := h; rfl) | (obtain ⟨_, _, _, rfl, _⟩ := h; rfl) | (obtain ⟨_, _, _, _, rfl, _⟩ := h; rfl) | (obtain ⟨rfl, _⟩ := h; rfl)) fun f cdv A' outer s H vs Q E hr hsp => ⟨t__law_draw K A, ?_, pure__law_draw TX hsp⟩
  have hr_ : ∀ j, j ≤ 1 → Room j _ := fun j hj => hr.mono hj
  have hu_ := hu65 hr
  unfold t__law_draw
  exact (pss_cons (ps_if (pt_cmpR op_oGt (pe_ix (ix_oIxX hu_) (pv 0) pe_int (fun _ _ => rfl)) pe_int (nomark _))
  (pss_cons (ps_set (i := 3) sc__law_draw.nd rfl (Or.inl rfl) (pe_op op_oMod (pe_callTy call_cInt rfl T.n_int bi_int (pa_cons (pe_ix (ix_oIxX hu_) (pv 0) pe_int (fun _ _ => rfl)) pa_nil)) (pv 1)))
  (pss_cons (ps_asg (pe_op op_oDiv (pe_ix (ix_oIxX hu_) (pv 0) pe_int (fun _ _ => rfl)) (pv 1)) (pg_sub (pv 0) pe_int (set_X hu_)))
  (pss_one (ps_ret (pv 3)))))
  pss_nil)
  (pss_cons (ps_if (pt_cmpR op_oGt (pe_ix (ix_oIxX hu_) (pv 0) pe_int (fun _ _ => rfl)) pe_int (nomark _))
  (pss_cons (ps_asg (pe_op op_oSub (pe_ix (ix_oIxX hu_) (pv 0) pe_int (fun _ _ => rfl)) pe_int) (pg_sub (pv 0) pe_int (set_X hu_)))
  (pss_one (ps_ret (pe_fn c__law_mixed (hr_ 1 (by decide)) rfl (pa_cons (pe_ix (ix_oIxX hu_) (pv 0) pe_int (fun _ _ => rfl)) (pa_cons (pe_ix (ix_oIxX hu_) (pv 0) pe_int (fun _ _ => rfl)) (pa_cons (pv 1) pa_nil)))))))
  pss_nil)
  (pss_cons (ps_if (pt_cmpR op_oGe (pe_ix (ix_oIxX hu_) (pv 0) pe_int (fun _ _ => rfl)) (pe_callB call_cLenX rfl T.n_len bi_len (pa_cons (pe_ix (ix_oIxX hu_) (pv 0) pe_int (fun _ _ => rfl)) pa_nil)) (nomark _))
  (pss_one (ps_ret pe_int))
  pss_nil)
  (pss_cons (ps_set (i := 2) sc__law_draw.nd rfl (Or.inl rfl) (pe_ix (ix_oIxX hu_) (pe_ix (ix_oIxX hu_) (pv 0) pe_int (fun _ _ => rfl)) (pe_ix (ix_oIxX hu_) (pv 0) pe_int (fun _ _ => rfl)) (fun _ _ => rfl)))
  (pss_cons (ps_asg (pe_op op_oAddX (pe_ix (ix_oIxX hu_) (pv 0) pe_int (fun _ _ => rfl)) pe_int) (pg_sub (pv 0) pe_int (set_X hu_)))
  (pss_cons (ps_if (pt_cmpR op_oLt (pv 2) pe_int (nomark _))
  (pss_one (ps_set (i := 2) sc__law_draw.nd rfl (Or.inl rfl) (pe_op op_oSub (pe_un un_oNeg pe_int) (pv 2))))
  pss_nil)
  (pss_cons (ps_if (pt_cmpR op_oGe (pv 2) (pe_op op_oPow pe_int pe_int) (nomark _))
  (pss_cons (ps_asg (pe_op op_oDiv (pv 2) (pv 1)) (pg_sub (pv 0) pe_int (set_X hu_)))
  (pss_one (ps_ret (pe_op op_oMod (pe_callTy call_cInt rfl T.n_int bi_int (pa_cons (pv 2) pa_nil)) (pv 1)))))
  pss_nil)
  (pss_cons (ps_asg (pv 2) (pg_sub (pv 0) pe_int (set_X hu_)))
  (pss_cons (ps_asg pe_int (pg_sub (pv 0) pe_int (set_X hu_)))
  (pss_one (ps_ret (pe_fn c__law_mixed (hr_ 1 (by decide)) rfl (pa_cons (pv 2) (pa_cons pe_int (pa_cons (pv 1) pa_nil)))))))))))))))
theorem ok__law_keep (T : Txt P K mg A) (TX : Caught K A) (h : Has K mg "_law_keep" s__law_keep ["_law_word", "_law_states", "_law_kinds"]) (c__law_backward : Cal P w K mg base CX0 1 "_law_backward" ["_law_rows"] (sp__law_backward K A)) (c__law_below : Cal P w K mg base CX0 1 "_law_below" ["_law_half", "_law_states", "_law_kinds"] (sp__law_below K A)) : Cal P w K mg base CX0 2 "_law_keep" ["_law_word", "_law_states", "_law_kinds"] (sp__law_keep K A) := by
  refine h.ok (k := 1) sc__law_keep (fun vs H Q E h => by first | exact An.len_conc (fun ags R X hF => by first | (obtain ⟨rfl, _⟩ := hF; rfl) | (obtain ⟨_, rfl, _⟩ := hF; rfl) | (obtain ⟨_, _, rfl, _⟩ := hF; rfl) | (obtain ⟨_, _, _, rfl, _⟩ := hF; rfl) | (obtain ⟨_, _, _, _, rfl, _⟩ := hF; rfl) | (obtain ⟨_, _, _, _, _, rfl, _⟩ := hF; rfl) | (obtain ⟨_, _, _, _, _, _, rfl, _⟩ := hF; rfl) | (obtain ⟨_, _, _, _, _, _, _, rfl, _⟩ := hF; rfl) | (obtain ⟨_, _, _, _, _, _, _, _, rfl, _⟩ := hF; rfl)) h | (obtain ⟨_, rfl, _⟩ := h; rfl) | (obtain ⟨_, _, rfl, _⟩ := h; rfl) | (obtain ⟨_, _, _, rfl, _⟩ := h; rfl) | (obtain ⟨_, _, _, _, rfl, _⟩ := h; rfl) | (obtain ⟨rfl, _⟩ := h; rfl)) fun f cdv A' outer s H vs Q E hr hsp => ⟨t__law_keep K A, ?_, pure__law_keep TX hsp⟩
  have hr_ : ∀ j, j ≤ 1 → Room j _ := fun j hj => hr.mono hj
  have hu_ := hu65 hr
  unfold t__law_keep
  exact (pss_cons (ps_set (i := 3) sc__law_keep.nd rfl (Or.inl rfl) (pe_lst pa_nil))
  (pss_cons (ps_for PassesOwn.never rfl (pi_any (pe_fn c__law_backward (hr_ 1 (by decide)) rfl (pa_cons (pv 0) pa_nil))) (pg_name (i := 4) sc__law_keep.nd rfl (Or.inl rfl))
  (pss_one (ps_if (pt_cmpR (op_oInX hu_) (pe_ix (ix_oIxX hu_) (pv 4) pe_int (fun _ _ => rfl)) (pv 1) rfl)
  (pss_cons (ps_set (i := 3) sc__law_keep.nd rfl (Or.inl rfl) (pe_op op_oAddX (pe_lst (pa_cons (pv 4) pa_nil)) (pv 3)))
  (pss_one (ps_set (i := 1) sc__law_keep.nd rfl (Or.inl rfl) (pe_fn c__law_below (hr_ 1 (by decide)) rfl (pa_cons (pv 4) (pa_cons (pv 1) (pa_cons (pv 2) pa_nil)))))))
  pss_nil)))
  (pss_one (ps_ret (pe_callTy call_cTupX rfl T.n_tuple bi_tuple (pa_cons (pv 3) pa_nil))))))
theorem ok__law_split (T : Txt P K mg A) (TX : Caught K A) (h : Has K mg "_law_split" s__law_split ["_law_word"]) (c__law_halves : Cal P w K mg base CX0 1 "_law_halves" ["_law_action_here"] (sp__law_halves K A)) : Cal P w K mg base CX0 2 "_law_split" ["_law_word"] (sp__law_split K A) := by
  refine h.ok (k := 1) sc__law_split (fun vs H Q E h => by first | exact An.len_conc (fun ags R X hF => by first | (obtain ⟨rfl, _⟩ := hF; rfl) | (obtain ⟨_, rfl, _⟩ := hF; rfl) | (obtain ⟨_, _, rfl, _⟩ := hF; rfl) | (obtain ⟨_, _, _, rfl, _⟩ := hF; rfl) | (obtain ⟨_, _, _, _, rfl, _⟩ := hF; rfl) | (obtain ⟨_, _, _, _, _, rfl, _⟩ := hF; rfl) | (obtain ⟨_, _, _, _, _, _, rfl, _⟩ := hF; rfl) | (obtain ⟨_, _, _, _, _, _, _, rfl, _⟩ := hF; rfl) | (obtain ⟨_, _, _, _, _, _, _, _, rfl, _⟩ := hF; rfl)) h | (obtain ⟨_, rfl, _⟩ := h; rfl) | (obtain ⟨_, _, rfl, _⟩ := h; rfl) | (obtain ⟨_, _, _, rfl, _⟩ := h; rfl) | (obtain ⟨_, _, _, _, rfl, _⟩ := h; rfl) | (obtain ⟨rfl, _⟩ := h; rfl)) fun f cdv A' outer s H vs Q E hr hsp => ⟨t__law_split K A, ?_, pure__law_split TX hsp⟩
  have hr_ : ∀ j, j ≤ 1 → Room j _ := fun j hj => hr.mono hj
  unfold t__law_split
  exact (pss_cons (ps_set (i := 1) sc__law_split.nd rfl (Or.inl rfl) (pe_lst pa_nil))
  (pss_cons (ps_for PassesOwn.never rfl (pi_any (pv 0)) (pg_name (i := 2) sc__law_split.nd rfl (Or.inl rfl))
  (pss_one (ps_set (i := 1) sc__law_split.nd rfl (Or.inl rfl) (pe_op op_oAddX (pv 1) (pe_fn c__law_halves (hr_ 1 (by decide)) rfl (pa_cons (pv 2) pa_nil))))))
  (pss_one (ps_ret (pv 1)))))
theorem ok_below (T : Txt P K mg A) (TX : Caught K A) (h : Has K mg "below" s_below ["half", "states", "book"]) (c_Book___getitem__ : MCal P w K mg base (L2.CX P w) 1 A.c_Book "__getitem__" ["self", "name"] (sp_Book___getitem__ K A)) : Cal P w K mg base CX0 3 "below" ["half", "states", "book"] (sp_below K A) := by
  refine h.ok (k := 2) sc_below (fun vs H Q E h => by first | exact An.len_conc (fun ags R X hF => by first | (obtain ⟨rfl, _⟩ := hF; rfl) | (obtain ⟨_, rfl, _⟩ := hF; rfl) | (obtain ⟨_, _, rfl, _⟩ := hF; rfl) | (obtain ⟨_, _, _, rfl, _⟩ := hF; rfl) | (obtain ⟨_, _, _, _, rfl, _⟩ := hF; rfl) | (obtain ⟨_, _, _, _, _, rfl, _⟩ := hF; rfl) | (obtain ⟨_, _, _, _, _, _, rfl, _⟩ := hF; rfl) | (obtain ⟨_, _, _, _, _, _, _, rfl, _⟩ := hF; rfl) | (obtain ⟨_, _, _, _, _, _, _, _, rfl, _⟩ := hF; rfl)) h | (obtain ⟨_, rfl, _⟩ := h; rfl) | (obtain ⟨_, _, rfl, _⟩ := h; rfl) | (obtain ⟨_, _, _, rfl, _⟩ := h; rfl) | (obtain ⟨_, _, _, _, rfl, _⟩ := h; rfl) | (obtain ⟨rfl, _⟩ := h; rfl)) fun f cdv A' outer s H vs Q E hr hsp => ⟨t_below K A, ?_, pure_below TX hsp⟩
  have hr_ : ∀ j, j ≤ 2 → Room j _ := fun j hj => hr.mono hj
  have hu_ := hu65 hr
  unfold t_below
  exact (pss_cons (ps_asg (pe_slice sl_oSlX (pv 0) po_none (po_some pe_int)) (pg_tup rfl (pgs_cons (pg_name (i := 3) sc_below.nd rfl (Or.inl rfl)) (pgs_cons (pg_name (i := 4) sc_below.nd rfl (Or.inl rfl)) pgs_nil))))
  (pss_cons (ps_if (pt_cmpR (op_oNotInX hu_) (pv 3) (pv 1) rfl)
  (pss_one (ps_ret (pv 1)))
  pss_nil)
  (pss_cons (ps_if (PW.pt (pw_or (pt_cmpR (op_oEq hu_) (pv 3) pe_str (nomark _)) (pw_or1 (pt_cmpR (op_oInX hu_) (pe_ix (ix_oIxX hu_) (pe_ixS c_Book___getitem__ (hr_ 2 (by decide)) (fun _ => pAtN) (pv 2) (pv 4)) pe_int (fun _ _ => rfl)) (pe_gs rfl T.g_CALMING) rfl))))
  (pss_one (ps_ret (pe_gs rfl T.g_BOTH)))
  pss_nil)
  (pss_one (ps_ret (pv 1))))))
theorem ok_check_kind (T : Txt P K mg A) (TX : Caught K A) (h : Has K mg "check_kind" s_check_kind ["kind"]) (c_check_number : Cal P w K mg base (L2.CX P w) 1 "check_number" ["number"] (sp_check_number K A)) (c_check_name : Cal P w K mg base (L2.CX P w) 2 "check_name" ["name"] (sp_check_name K A)) : Cal P w K mg base (L2.CX P w) 3 "check_kind" ["kind"] (sp_check_kind K A) := by
  refine h.okX (k := 2) sc_check_kind (fun vs H Q E h => by first | exact An.len_conc (fun ags R X hF => by first | (obtain ⟨rfl, _⟩ := hF; rfl) | (obtain ⟨_, rfl, _⟩ := hF; rfl) | (obtain ⟨_, _, rfl, _⟩ := hF; rfl) | (obtain ⟨_, _, _, rfl, _⟩ := hF; rfl) | (obtain ⟨_, _, _, _, rfl, _⟩ := hF; rfl) | (obtain ⟨_, _, _, _, _, rfl, _⟩ := hF; rfl) | (obtain ⟨_, _, _, _, _, _, rfl, _⟩ := hF; rfl) | (obtain ⟨_, _, _, _, _, _, _, rfl, _⟩ := hF; rfl) | (obtain ⟨_, _, _, _, _, _, _, _, rfl, _⟩ := hF; rfl)) h | (obtain ⟨_, rfl, _⟩ := h; rfl) | (obtain ⟨_, _, rfl, _⟩ := h; rfl) | (obtain ⟨_, _, _, rfl, _⟩ := h; rfl) | (obtain ⟨_, _, _, _, rfl, _⟩ := h; rfl) | (obtain ⟨rfl, _⟩ := h; rfl)) fun f cdv A' outer s H vs Q E hr hsp => ⟨t_check_kind K A E, ?_, pure_check_kind TX hsp⟩
  have hr_ : ∀ j, j ≤ 2 → Room j _ := fun j hj => hr.mono hj
  have hu_ := hu65 hr
  unfold t_check_kind
  exact (pss_cons (ps_if (pt_cmpR (op_oEq hu_) (pv 0) (pe_tup (pa_cons pe_str pa_nil)) (nomark _))
  (pss_one ps_retN)
  pss_nil)
  (pss_cons (ps_if (PW.pt (pw_or (pt_cmpR (op_oNe hu_) (pe_callB call_cLenX rfl T.n_len bi_len (pa_cons (pv 0) pa_nil)) pe_int (nomark _)) (pw_or1 (pt_cmpR (op_oNotInX hu_) (pe_ix (ix_oIxX hu_) (pv 0) pe_int (fun _ _ => rfl)) (pe_op op_oAddX (pe_gs rfl T.g_KINDS_WITH_NUMBER) (pe_gs rfl T.g_KINDS_WITH_NAME)) rfl))))
  (pss_one (ps_raiseE rfl T.e_BadKind en_kind hr (takes_of rfl rfl rfl rfl) (pa_cons (pv 0) pa_nil) rfl (by decide)))
  pss_nil)
  (pss_one (ps_if (pt_cmpR (op_oInX hu_) (pe_ix (ix_oIxX hu_) (pv 0) pe_int (fun _ _ => rfl)) (pe_gs rfl T.g_KINDS_WITH_NUMBER) rfl)
  (pss_one (ps_expr (pe_fnX c_check_number (hr_ 1 (by decide)) (passes_call (takes_of rfl rfl rfl rfl) fun _ _ _ _ h => h) rfl (pa_cons (pe_ix (ix_oIxX hu_) (pv 0) pe_int (fun _ _ => rfl)) pa_nil))))
  (pss_one (ps_expr (pe_fnX c_check_name (hr_ 2 (by decide)) (passes_call (takes_of rfl rfl rfl rfl) fun _ _ _ _ h => h) rfl (pa_cons (pe_ix (ix_oIxX hu_) (pv 0) pe_int (fun _ _ => rfl)) pa_nil))))))))
theorem ok_Book_add_cell (T : Txt P K mg A) (TX : Caught K A) (h : MHas K A.c_Book "add_cell" "Book.add_cell" s_Book_add_cell ["self", "name", "size"]) (c_check_name : Cal P w K mg base (L2.CX P w) 2 "check_name" ["name"] (sp_check_name K A)) (c_at_most : Cal P w K mg base (L2.CX P w) 1 "at_most" ["entries", "most"] (sp_at_most K A)) : MCal P w K mg base (L2.CX P w) 3 A.c_Book "add_cell" ["self", "name", "size"] (sp_Book_add_cell K A) := by
  refine h.okX (k := 2) sc_Book_add_cell (fun vs H Q E h => by first | exact An.len_conc (fun ags R X hF => by first | (obtain ⟨rfl, _⟩ := hF; rfl) | (obtain ⟨_, rfl, _⟩ := hF; rfl) | (obtain ⟨_, _, rfl, _⟩ := hF; rfl) | (obtain ⟨_, _, _, rfl, _⟩ := hF; rfl) | (obtain ⟨_, _, _, _, rfl, _⟩ := hF; rfl) | (obtain ⟨_, _, _, _, _, rfl, _⟩ := hF; rfl) | (obtain ⟨_, _, _, _, _, _, rfl, _⟩ := hF; rfl) | (obtain ⟨_, _, _, _, _, _, _, rfl, _⟩ := hF; rfl) | (obtain ⟨_, _, _, _, _, _, _, _, rfl, _⟩ := hF; rfl)) h | (obtain ⟨_, rfl, _⟩ := h; rfl) | (obtain ⟨_, _, rfl, _⟩ := h; rfl) | (obtain ⟨_, _, _, rfl, _⟩ := h; rfl) | (obtain ⟨_, _, _, _, rfl, _⟩ := h; rfl) | (obtain ⟨rfl, _⟩ := h; rfl)) fun f cdv A' outer s H vs Q E hr hsp => ⟨t_Book_add_cell K A E, ?_, pure_Book_add_cell TX hsp⟩
  have hr_ : ∀ j, j ≤ 2 → Room j _ := fun j hj => hr.mono hj
  have hu_ := hu65 hr
  obtain ⟨_, v_Book_CELLS⟩ := T.v_Book_CELLS
  unfold t_Book_add_cell
  exact (pss_cons (ps_expr (pe_fnX c_check_name (hr_ 2 (by decide)) (passes_call (takes_of rfl rfl rfl rfl) fun _ _ _ _ h => h) rfl (pa_cons (pv 1) pa_nil)))
  (pss_cons (ps_if (pt_cmpR (op_oNotInX hu_) (pv 2) (pe_gs rfl T.g_CELL_SIZES) rfl)
  (pss_one (ps_raiseE rfl T.e_BadNumber en_number hr (takes_of rfl rfl rfl rfl) (pa_cons (pv 2) pa_nil) rfl (by decide)))
  pss_nil)
  (pss_cons (ps_if (pt_cmpR (op_oInX hu_) (pv 1) (pe_fldC T.k_Book T.f_Book__sizes (pv 0)) rfl)
  (pss_one (ps_raiseE rfl T.e_Clash en_name hr (takes_of rfl rfl rfl rfl) (pa_cons (pv 1) pa_nil) rfl (by decide)))
  pss_nil)
  (pss_one (ps_fldC T.k_Book T.f_Book__sizes (pv 0) (pe_fnX c_at_most (hr_ 1 (by decide)) (passes_call (takes_of rfl rfl rfl rfl) fun _ _ _ _ h => h) rfl (pa_cons (pe_starKV (pe_fldC T.k_Book T.f_Book__sizes (pv 0)) (pv 1) (pv 2)) (pa_cons (pe_cst (pe_glob (v := .ref A.c_Book) rfl T.c_Book rfl) T.r_Book v_Book_CELLS) pa_nil))))))))
theorem ok__law_name (T : Txt P K mg A) (TX : Caught K A) (h : Has K mg "_law_name" s__law_name ["_law_pool_here"]) (c__law_letters : Cal P w K mg base CX0 1 "_law_letters" [] (sp__law_letters K A)) (c__law_draw : Cal P w K mg base CX0 2 "_law_draw" ["_law_pool_here", "_law_limit"] (sp__law_draw K A)) : Cal P w K mg base CX0 3 "_law_name" ["_law_pool_here"] (sp__law_name K A) := by
  refine h.ok (k := 2) sc__law_name (fun vs H Q E h => by first | exact An.len_conc (fun ags R X hF => by first | (obtain ⟨rfl, _⟩ := hF; rfl) | (obtain ⟨_, rfl, _⟩ := hF; rfl) | (obtain ⟨_, _, rfl, _⟩ := hF; rfl) | (obtain ⟨_, _, _, rfl, _⟩ := hF; rfl) | (obtain ⟨_, _, _, _, rfl, _⟩ := hF; rfl) | (obtain ⟨_, _, _, _, _, rfl, _⟩ := hF; rfl) | (obtain ⟨_, _, _, _, _, _, rfl, _⟩ := hF; rfl) | (obtain ⟨_, _, _, _, _, _, _, rfl, _⟩ := hF; rfl) | (obtain ⟨_, _, _, _, _, _, _, _, rfl, _⟩ := hF; rfl)) h | (obtain ⟨_, rfl, _⟩ := h; rfl) | (obtain ⟨_, _, rfl, _⟩ := h; rfl) | (obtain ⟨_, _, _, rfl, _⟩ := h; rfl) | (obtain ⟨_, _, _, _, rfl, _⟩ := h; rfl) | (obtain ⟨rfl, _⟩ := h; rfl)) fun f cdv A' outer s H vs Q E hr hsp => ⟨t__law_name K A, ?_, pure__law_name TX hsp⟩
  have hr_ : ∀ j, j ≤ 2 → Room j _ := fun j hj => hr.mono hj
  have hu_ := hu65 hr
  unfold t__law_name
  exact (pss_cons (ps_set (i := 1) sc__law_name.nd rfl (Or.inl rfl) (pe_op op_oAddX (pe_fn0 c__law_letters (hr_ 1 (by decide)) rfl) pe_str))
  (pss_cons (ps_set (i := 2) sc__law_name.nd rfl (Or.inl rfl) (pe_ix (ix_oIxX hu_) (pv 1) (pe_fn c__law_draw (hr_ 2 (by decide)) rfl (pa_cons (pv 0) (pa_cons pe_int pa_nil))) (fun _ _ => rfl)))
  (pss_cons (ps_set (i := 3) sc__law_name.nd rfl (Or.inl rfl) (pe_fn c__law_draw (hr_ 2 (by decide)) rfl (pa_cons (pv 0) (pa_cons pe_int pa_nil))))
  (pss_cons (ps_if (pt_cmpR (op_oEq hu_) (pe_fn c__law_draw (hr_ 2 (by decide)) rfl (pa_cons (pv 0) (pa_cons pe_int pa_nil))) pe_int (nomark _))
  (pss_one (ps_set (i := 3) sc__law_name.nd rfl (Or.inl rfl) (pe_fn c__law_draw (hr_ 2 (by decide)) rfl (pa_cons (pv 0) (pa_cons pe_int pa_nil)))))
  pss_nil)
  (pss_cons (ps_for PassesOwn.never rfl (pi_range1 rfl T.n_range (pa_cons (pv 3) pa_nil)) (pg_name (i := 4) sc__law_name.nd rfl (Or.inl rfl))
  (pss_one (ps_set (i := 2) sc__law_name.nd rfl (Or.inl rfl) (pe_op op_oAddX (pv 2) (pe_ix (ix_oIxX hu_) (pv 1) (pe_fn c__law_draw (hr_ 2 (by decide)) rfl (pa_cons (pv 0) (pa_cons pe_int pa_nil))) (fun _ _ => rfl))))))
  (pss_one (ps_ret (pv 2))))))))
theorem ok__law_number (T : Txt P K mg A) (TX : Caught K A) (h : Has K mg "_law_number" s__law_number ["_law_pool_here"]) (c__law_draw : Cal P w K mg base CX0 2 "_law_draw" ["_law_pool_here", "_law_limit"] (sp__law_draw K A)) : Cal P w K mg base CX0 3 "_law_number" ["_law_pool_here"] (sp__law_number K A) := by
  refine h.ok (k := 2) sc__law_number (fun vs H Q E h => by first | exact An.len_conc (fun ags R X hF => by first | (obtain ⟨rfl, _⟩ := hF; rfl) | (obtain ⟨_, rfl, _⟩ := hF; rfl) | (obtain ⟨_, _, rfl, _⟩ := hF; rfl) | (obtain ⟨_, _, _, rfl, _⟩ := hF; rfl) | (obtain ⟨_, _, _, _, rfl, _⟩ := hF; rfl) | (obtain ⟨_, _, _, _, _, rfl, _⟩ := hF; rfl) | (obtain ⟨_, _, _, _, _, _, rfl, _⟩ := hF; rfl) | (obtain ⟨_, _, _, _, _, _, _, rfl, _⟩ := hF; rfl) | (obtain ⟨_, _, _, _, _, _, _, _, rfl, _⟩ := hF; rfl)) h | (obtain ⟨_, rfl, _⟩ := h; rfl) | (obtain ⟨_, _, rfl, _⟩ := h; rfl) | (obtain ⟨_, _, _, rfl, _⟩ := h; rfl) | (obtain ⟨_, _, _, _, rfl, _⟩ := h; rfl) | (obtain ⟨rfl, _⟩ := h; rfl)) fun f cdv A' outer s H vs Q E hr hsp => ⟨t__law_number K A, ?_, pure__law_number TX hsp⟩
  have hr_ : ∀ j, j ≤ 2 → Room j _ := fun j hj => hr.mono hj
  have hu_ := hu65 hr
  unfold t__law_number
  exact (pss_cons (ps_if (pt_cmpR (op_oEq hu_) (pe_fn c__law_draw (hr_ 2 (by decide)) rfl (pa_cons (pv 0) (pa_cons pe_int pa_nil))) pe_int (nomark _))
  (pss_one (ps_ret (pe_fn c__law_draw (hr_ 2 (by decide)) rfl (pa_cons (pv 0) (pa_cons pe_int pa_nil)))))
  pss_nil)
  (pss_one (ps_ret (pe_fn c__law_draw (hr_ 2 (by decide)) rfl (pa_cons (pv 0) (pa_cons pe_int pa_nil))))))
theorem ok_sifted (T : Txt P K mg A) (TX : Caught K A) (h : Has K mg "sifted" s_sifted ["word", "states", "book"]) (c_below : Cal P w K mg base CX0 3 "below" ["half", "states", "book"] (sp_below K A)) : Cal P w K mg base CX0 4 "sifted" ["word", "states", "book"] (sp_sifted K A) := by
  refine h.ok (k := 3) sc_sifted (fun vs H Q E h => by first | exact An.len_conc (fun ags R X hF => by first | (obtain ⟨rfl, _⟩ := hF; rfl) | (obtain ⟨_, rfl, _⟩ := hF; rfl) | (obtain ⟨_, _, rfl, _⟩ := hF; rfl) | (obtain ⟨_, _, _, rfl, _⟩ := hF; rfl) | (obtain ⟨_, _, _, _, rfl, _⟩ := hF; rfl) | (obtain ⟨_, _, _, _, _, rfl, _⟩ := hF; rfl) | (obtain ⟨_, _, _, _, _, _, rfl, _⟩ := hF; rfl) | (obtain ⟨_, _, _, _, _, _, _, rfl, _⟩ := hF; rfl) | (obtain ⟨_, _, _, _, _, _, _, _, rfl, _⟩ := hF; rfl)) h | (obtain ⟨_, rfl, _⟩ := h; rfl) | (obtain ⟨_, _, rfl, _⟩ := h; rfl) | (obtain ⟨_, _, _, rfl, _⟩ := h; rfl) | (obtain ⟨_, _, _, _, rfl, _⟩ := h; rfl) | (obtain ⟨rfl, _⟩ := h; rfl)) fun f cdv A' outer s H vs Q E hr hsp => ⟨t_sifted K A, ?_, pure_sifted TX hsp⟩
  have hr_ : ∀ j, j ≤ 3 → Room j _ := fun j hj => hr.mono hj
  have hu_ := hu65 hr
  unfold t_sifted
  exact (pss_cons (ps_set (i := 3) sc_sifted.nd rfl (Or.inl rfl) (pe_lst pa_nil))
  (pss_cons (ps_for PassesOwn.never rfl (pi_any (pe_revX (pv 0))) (pg_name (i := 4) sc_sifted.nd rfl (Or.inl rfl))
  (pss_cons (ps_if (pt_cmpR (op_oInX hu_) (pe_ix (ix_oIxX hu_) (pv 4) pe_int (fun _ _ => rfl)) (pv 1) rfl)
  (pss_one (ps_expr (pe_bm PySem.F.plainAttrs_list PySem.F.slot_list_append PySem.F.type_list_append mt_append (pv 3) (pa_cons (pv 4) pa_nil))))
  pss_nil)
  (pss_one (ps_set (i := 1) sc_sifted.nd rfl (Or.inl rfl) (pe_fn c_below (hr_ 3 (by decide)) rfl (pa_cons (pv 4) (pa_cons (pv 1) (pa_cons (pv 2) pa_nil))))))))
  (pss_one (ps_ret (pe_tup (pa_cons (pe_callTy call_cTupX rfl T.n_tuple bi_tuple (pa_cons (pe_revX (pv 3)) pa_nil)) (pa_cons (pv 1) pa_nil)))))))
theorem ok_with_step (T : Txt P K mg A) (TX : Caught K A) (h : Has K mg "with_step" s_with_step ["steps", "name", "kind"]) (c_check_name : Cal P w K mg base (L2.CX P w) 2 "check_name" ["name"] (sp_check_name K A)) (c_check_kind : Cal P w K mg base (L2.CX P w) 3 "check_kind" ["kind"] (sp_check_kind K A)) (c_at_most : Cal P w K mg base (L2.CX P w) 1 "at_most" ["entries", "most"] (sp_at_most K A)) : Cal P w K mg base (L2.CX P w) 4 "with_step" ["steps", "name", "kind"] (sp_with_step K A) := by
  refine h.okX (k := 3) sc_with_step (fun vs H Q E h => by first | exact An.len_conc (fun ags R X hF => by first | (obtain ⟨rfl, _⟩ := hF; rfl) | (obtain ⟨_, rfl, _⟩ := hF; rfl) | (obtain ⟨_, _, rfl, _⟩ := hF; rfl) | (obtain ⟨_, _, _, rfl, _⟩ := hF; rfl) | (obtain ⟨_, _, _, _, rfl, _⟩ := hF; rfl) | (obtain ⟨_, _, _, _, _, rfl, _⟩ := hF; rfl) | (obtain ⟨_, _, _, _, _, _, rfl, _⟩ := hF; rfl) | (obtain ⟨_, _, _, _, _, _, _, rfl, _⟩ := hF; rfl) | (obtain ⟨_, _, _, _, _, _, _, _, rfl, _⟩ := hF; rfl)) h | (obtain ⟨_, rfl, _⟩ := h; rfl) | (obtain ⟨_, _, rfl, _⟩ := h; rfl) | (obtain ⟨_, _, _, rfl, _⟩ := h; rfl) | (obtain ⟨_, _, _, _, rfl, _⟩ := h; rfl) | (obtain ⟨rfl, _⟩ := h; rfl)) fun f cdv A' outer s H vs Q E hr hsp => ⟨t_with_step K A E, ?_, pure_with_step TX hsp⟩
  have hr_ : ∀ j, j ≤ 3 → Room j _ := fun j hj => hr.mono hj
  obtain ⟨_, v_Book_STEPS⟩ := T.v_Book_STEPS
  unfold t_with_step
  exact (pss_cons (ps_expr (pe_fnX c_check_name (hr_ 2 (by decide)) (passes_call (takes_of rfl rfl rfl rfl) fun _ _ _ _ h => h) rfl (pa_cons (pv 1) pa_nil)))
  (pss_cons (ps_expr (pe_fnX c_check_kind (hr_ 3 (by decide)) (passes_call (takes_of rfl rfl rfl rfl) fun _ _ _ _ h => h) rfl (pa_cons (pv 2) pa_nil)))
  (pss_one (ps_ret (pe_fnX c_at_most (hr_ 1 (by decide)) (passes_call (takes_of rfl rfl rfl rfl) fun _ _ _ _ h => h) rfl (pa_cons (pe_starKV (pv 0) (pv 1) (pv 2)) (pa_cons (pe_cst (pe_glob (v := .ref A.c_Book) rfl T.c_Book rfl) T.r_Book v_Book_STEPS) pa_nil)))))))
theorem ok__law_fresh (T : Txt P K mg A) (TX : Caught K A) (h : Has K mg "_law_fresh" s__law_fresh ["_law_pool_here", "_law_used"]) (c__law_name : Cal P w K mg base CX0 3 "_law_name" ["_law_pool_here"] (sp__law_name K A)) (c__law_letters : Cal P w K mg base CX0 1 "_law_letters" [] (sp__law_letters K A)) : Cal P w K mg base CX0 4 "_law_fresh" ["_law_pool_here", "_law_used"] (sp__law_fresh K A) := by
  refine h.ok (k := 3) sc__law_fresh (fun vs H Q E h => by first | exact An.len_conc (fun ags R X hF => by first | (obtain ⟨rfl, _⟩ := hF; rfl) | (obtain ⟨_, rfl, _⟩ := hF; rfl) | (obtain ⟨_, _, rfl, _⟩ := hF; rfl) | (obtain ⟨_, _, _, rfl, _⟩ := hF; rfl) | (obtain ⟨_, _, _, _, rfl, _⟩ := hF; rfl) | (obtain ⟨_, _, _, _, _, rfl, _⟩ := hF; rfl) | (obtain ⟨_, _, _, _, _, _, rfl, _⟩ := hF; rfl) | (obtain ⟨_, _, _, _, _, _, _, rfl, _⟩ := hF; rfl) | (obtain ⟨_, _, _, _, _, _, _, _, rfl, _⟩ := hF; rfl)) h | (obtain ⟨_, rfl, _⟩ := h; rfl) | (obtain ⟨_, _, rfl, _⟩ := h; rfl) | (obtain ⟨_, _, _, rfl, _⟩ := h; rfl) | (obtain ⟨_, _, _, _, rfl, _⟩ := h; rfl) | (obtain ⟨rfl, _⟩ := h; rfl)) fun f cdv A' outer s H vs Q E hr hsp => ⟨t__law_fresh K A, ?_, pure__law_fresh TX hsp⟩
  have hr_ : ∀ j, j ≤ 3 → Room j _ := fun j hj => hr.mono hj
  have hu_ := hu65 hr
  unfold t__law_fresh
  exact (pss_cons (ps_set (i := 2) sc__law_fresh.nd rfl (Or.inl rfl) (pe_fn c__law_name (hr_ 3 (by decide)) rfl (pa_cons (pv 0) pa_nil)))
  (pss_cons (ps_if (pt_cmpR (op_oNotInX hu_) (pv 2) (pv 1) rfl)
  (pss_one (ps_ret (pv 2)))
  pss_nil)
  (pss_cons (ps_for PassesOwn.never rfl (pi_any (pe_op op_oAddX (pe_fn0 c__law_letters (hr_ 1 (by decide)) rfl) pe_str)) (pg_name (i := 3) sc__law_fresh.nd rfl (Or.inl rfl))
  (pss_one (ps_if (pt_cmpR (op_oNotInX hu_) (pe_op op_oAddX (pe_slice sl_oSlX (pv 2) po_none (po_some pe_int)) (pv 3)) (pv 1) rfl)
  (pss_one (ps_ret (pe_op op_oAddX (pe_slice sl_oSlX (pv 2) po_none (po_some pe_int)) (pv 3))))
  pss_nil)))
  (pss_one (ps_ret (pv 2))))))
theorem ok__law_kind (T : Txt P K mg A) (TX : Caught K A) (h : Has K mg "_law_kind" s__law_kind ["_law_pool_here"]) (c__law_draw : Cal P w K mg base CX0 2 "_law_draw" ["_law_pool_here", "_law_limit"] (sp__law_draw K A)) (c__law_number : Cal P w K mg base CX0 3 "_law_number" ["_law_pool_here"] (sp__law_number K A)) (c__law_name : Cal P w K mg base CX0 3 "_law_name" ["_law_pool_here"] (sp__law_name K A)) : Cal P w K mg base CX0 4 "_law_kind" ["_law_pool_here"] (sp__law_kind K A) := by
  refine h.ok (k := 3) sc__law_kind (fun vs H Q E h => by first | exact An.len_conc (fun ags R X hF => by first | (obtain ⟨rfl, _⟩ := hF; rfl) | (obtain ⟨_, rfl, _⟩ := hF; rfl) | (obtain ⟨_, _, rfl, _⟩ := hF; rfl) | (obtain ⟨_, _, _, rfl, _⟩ := hF; rfl) | (obtain ⟨_, _, _, _, rfl, _⟩ := hF; rfl) | (obtain ⟨_, _, _, _, _, rfl, _⟩ := hF; rfl) | (obtain ⟨_, _, _, _, _, _, rfl, _⟩ := hF; rfl) | (obtain ⟨_, _, _, _, _, _, _, rfl, _⟩ := hF; rfl) | (obtain ⟨_, _, _, _, _, _, _, _, rfl, _⟩ := hF; rfl)) h | (obtain ⟨_, rfl, _⟩ := h; rfl) | (obtain ⟨_, _, rfl, _⟩ := h; rfl) | (obtain ⟨_, _, _, rfl, _⟩ := h; rfl) | (obtain ⟨_, _, _, _, rfl, _⟩ := h; rfl) | (obtain ⟨rfl, _⟩ := h; rfl)) fun f cdv A' outer s H vs Q E hr hsp => ⟨t__law_kind K A, ?_, pure__law_kind TX hsp⟩
  have hr_ : ∀ j, j ≤ 3 → Room j _ := fun j hj => hr.mono hj
  have hu_ := hu65 hr
  unfold t__law_kind
  exact (pss_cons (ps_set (i := 1) sc__law_kind.nd rfl (Or.inl rfl) (pe_fn c__law_draw (hr_ 2 (by decide)) rfl (pa_cons (pv 0) (pa_cons pe_int pa_nil))))
  (pss_cons (ps_if (pt_cmpR (op_oEq hu_) (pv 1) pe_int (nomark _))
  (pss_one (ps_ret (pe_tup (pa_cons pe_str (pa_cons (pe_fn c__law_number (hr_ 3 (by decide)) rfl (pa_cons (pv 0) pa_nil)) pa_nil)))))
  pss_nil)
  (pss_cons (ps_if (pt_cmpR (op_oEq hu_) (pv 1) pe_int (nomark _))
  (pss_one (ps_ret (pe_tup (pa_cons pe_str (pa_cons (pe_fn c__law_name (hr_ 3 (by decide)) rfl (pa_cons (pv 0) pa_nil)) pa_nil)))))
  pss_nil)
  (pss_cons (ps_if (PW.pt (pw_or (pt_cmpR (op_oEq hu_) (pv 1) pe_int (nomark _)) (pw_or1 (pt_cmpR (op_oEq hu_) (pv 1) pe_int (nomark _)))))
  (pss_one (ps_ret (pe_tup (pa_cons pe_str (pa_cons (pe_fn c__law_number (hr_ 3 (by decide)) rfl (pa_cons (pv 0) pa_nil)) pa_nil)))))
  pss_nil)
  (pss_cons (ps_if (pt_cmpR (op_oEq hu_) (pv 1) pe_int (nomark _))
  (pss_one (ps_ret (pe_tup (pa_cons pe_str (pa_cons (pe_fn c__law_name (hr_ 3 (by decide)) rfl (pa_cons (pv 0) pa_nil)) pa_nil)))))
  pss_nil)
  (pss_one (ps_ret (pe_tup (pa_cons pe_str pa_nil)))))))))
theorem ok__law_argument (T : Txt P K mg A) (TX : Caught K A) (h : Has K mg "_law_argument" s__law_argument ["_law_pool_here", "_law_lore_here", "_law_late"]) (c__law_draw : Cal P w K mg base CX0 2 "_law_draw" ["_law_pool_here", "_law_limit"] (sp__law_draw K A)) (c__law_number : Cal P w K mg base CX0 3 "_law_number" ["_law_pool_here"] (sp__law_number K A)) : Cal P w K mg base CX0 4 "_law_argument" ["_law_pool_here", "_law_lore_here", "_law_late"] (sp__law_argument K A) := by
  refine h.ok (k := 3) sc__law_argument (fun vs H Q E h => by first | exact An.len_conc (fun ags R X hF => by first | (obtain ⟨rfl, _⟩ := hF; rfl) | (obtain ⟨_, rfl, _⟩ := hF; rfl) | (obtain ⟨_, _, rfl, _⟩ := hF; rfl) | (obtain ⟨_, _, _, rfl, _⟩ := hF; rfl) | (obtain ⟨_, _, _, _, rfl, _⟩ := hF; rfl) | (obtain ⟨_, _, _, _, _, rfl, _⟩ := hF; rfl) | (obtain ⟨_, _, _, _, _, _, rfl, _⟩ := hF; rfl) | (obtain ⟨_, _, _, _, _, _, _, rfl, _⟩ := hF; rfl) | (obtain ⟨_, _, _, _, _, _, _, _, rfl, _⟩ := hF; rfl)) h | (obtain ⟨_, rfl, _⟩ := h; rfl) | (obtain ⟨_, _, rfl, _⟩ := h; rfl) | (obtain ⟨_, _, _, rfl, _⟩ := h; rfl) | (obtain ⟨_, _, _, _, rfl, _⟩ := h; rfl) | (obtain ⟨rfl, _⟩ := h; rfl)) fun f cdv A' outer s H vs Q E hr hsp => ⟨t__law_argument K A, ?_, pure__law_argument TX hsp⟩
  have hr_ : ∀ j, j ≤ 3 → Room j _ := fun j hj => hr.mono hj
  have hu_ := hu65 hr
  unfold t__law_argument
  exact (pss_cons (ps_set (i := 3) sc__law_argument.nd rfl (Or.inl rfl) (pe_fn c__law_draw (hr_ 2 (by decide)) rfl (pa_cons (pv 0) (pa_cons pe_int pa_nil))))
  (pss_cons (ps_if (PW.pt (pw_or (pt_cmpR (op_oEq hu_) (pv 3) pe_int (nomark _)) (pw_or1 (PW.pt (pw_and (pt_cmpR (op_oEq hu_) (pv 3) pe_int (nomark _)) (pw_and (pt_cmpR op_oGt (pe_callB call_cLenX rfl T.n_len bi_len (pa_cons (pe_ix (ix_oIxX hu_) (pv 1) pe_int (fun _ _ => rfl)) pa_nil)) pe_int (nomark _)) (pw_and1 (pt_cmpR (op_oEq hu_) (pe_fn c__law_draw (hr_ 2 (by decide)) rfl (pa_cons (pv 0) (pa_cons pe_int pa_nil))) pe_int (nomark _)))))))))
  (pss_one (ps_ret pe_non))
  pss_nil)
  (pss_cons (ps_if (PW.pt (pw_or (pt_cmpR (op_oEq hu_) (pv 3) pe_int (nomark _)) (pw_or1 (pt_cmpR (op_oEq hu_) (pe_callB call_cLenX rfl T.n_len bi_len (pa_cons (pe_ix (ix_oIxX hu_) (pv 1) pe_int (fun _ _ => rfl)) pa_nil)) pe_int (nomark _)))))
  (pss_one (ps_ret (pe_fn c__law_number (hr_ 3 (by decide)) rfl (pa_cons (pv 0) pa_nil))))
  pss_nil)
  (pss_cons (ps_set (i := 4) sc__law_argument.nd rfl (Or.inl rfl) (pe_ix (ix_oIxX hu_) (pe_ix (ix_oIxX hu_) (pe_ix (ix_oIxX hu_) (pv 1) pe_int (fun _ _ => rfl)) (pe_fn c__law_draw (hr_ 2 (by decide)) rfl (pa_cons (pv 0) (pa_cons (pe_callB call_cLenX rfl T.n_len bi_len (pa_cons (pe_ix (ix_oIxX hu_) (pv 1) pe_int (fun _ _ => rfl)) pa_nil)) pa_nil))) (fun _ _ => rfl)) pe_int (fun _ _ => rfl)))
  (pss_cons (ps_if (PW.pt (pw_and (pt_val (pv 2)) (pw_and1 (pt_cmpR op_oGt (pe_fn c__law_draw (hr_ 2 (by decide)) rfl (pa_cons (pv 0) (pa_cons pe_int pa_nil))) pe_int (nomark _)))))
  (pss_one (ps_ret (pe_tup (pa_cons pe_str (pa_cons (pv 4) pa_nil)))))
  pss_nil)
  (pss_one (ps_ret (pe_tup (pa_cons pe_str (pa_cons (pv 4) pa_nil))))))))))
theorem ok_live_halves (T : Txt P K mg A) (TX : Caught K A) (h : Has K mg "live_halves" s_live_halves ["word", "states", "book"]) (c_sifted : Cal P w K mg base CX0 4 "sifted" ["word", "states", "book"] (sp_sifted K A)) : Cal P w K mg base CX0 5 "live_halves" ["word", "states", "book"] (sp_live_halves K A) := by
  refine h.ok (k := 4) sc_live_halves (fun vs H Q E h => by first | exact An.len_conc (fun ags R X hF => by first | (obtain ⟨rfl, _⟩ := hF; rfl) | (obtain ⟨_, rfl, _⟩ := hF; rfl) | (obtain ⟨_, _, rfl, _⟩ := hF; rfl) | (obtain ⟨_, _, _, rfl, _⟩ := hF; rfl) | (obtain ⟨_, _, _, _, rfl, _⟩ := hF; rfl) | (obtain ⟨_, _, _, _, _, rfl, _⟩ := hF; rfl) | (obtain ⟨_, _, _, _, _, _, rfl, _⟩ := hF; rfl) | (obtain ⟨_, _, _, _, _, _, _, rfl, _⟩ := hF; rfl) | (obtain ⟨_, _, _, _, _, _, _, _, rfl, _⟩ := hF; rfl)) h | (obtain ⟨_, rfl, _⟩ := h; rfl) | (obtain ⟨_, _, rfl, _⟩ := h; rfl) | (obtain ⟨_, _, _, rfl, _⟩ := h; rfl) | (obtain ⟨_, _, _, _, rfl, _⟩ := h; rfl) | (obtain ⟨rfl, _⟩ := h; rfl)) fun f cdv A' outer s H vs Q E hr hsp => ⟨t_live_halves K A, ?_, pure_live_halves TX hsp⟩
  have hr_ : ∀ j, j ≤ 4 → Room j _ := fun j hj => hr.mono hj
  have hu_ := hu65 hr
  unfold t_live_halves
  exact (pss_one (ps_ret (pe_ix (ix_oIxX hu_) (pe_fn c_sifted (hr_ 4 (by decide)) rfl (pa_cons (pv 0) (pa_cons (pv 1) (pa_cons (pv 2) pa_nil)))) pe_int (fun _ _ => rfl))))
theorem ok_Book___setitem__ (T : Txt P K mg A) (TX : Caught K A) (h : MHas K A.c_Book "__setitem__" "Book.__setitem__" s_Book___setitem__ ["self", "name", "kind"]) (c_with_step : Cal P w K mg base (L2.CX P w) 4 "with_step" ["steps", "name", "kind"] (sp_with_step K A)) : MCal P w K mg base (L2.CX P w) 5 A.c_Book "__setitem__" ["self", "name", "kind"] (sp_Book___setitem__ K A) := by
  refine h.okX (k := 4) sc_Book___setitem__ (fun vs H Q E h => by first | exact An.len_conc (fun ags R X hF => by first | (obtain ⟨rfl, _⟩ := hF; rfl) | (obtain ⟨_, rfl, _⟩ := hF; rfl) | (obtain ⟨_, _, rfl, _⟩ := hF; rfl) | (obtain ⟨_, _, _, rfl, _⟩ := hF; rfl) | (obtain ⟨_, _, _, _, rfl, _⟩ := hF; rfl) | (obtain ⟨_, _, _, _, _, rfl, _⟩ := hF; rfl) | (obtain ⟨_, _, _, _, _, _, rfl, _⟩ := hF; rfl) | (obtain ⟨_, _, _, _, _, _, _, rfl, _⟩ := hF; rfl) | (obtain ⟨_, _, _, _, _, _, _, _, rfl, _⟩ := hF; rfl)) h | (obtain ⟨_, rfl, _⟩ := h; rfl) | (obtain ⟨_, _, rfl, _⟩ := h; rfl) | (obtain ⟨_, _, _, rfl, _⟩ := h; rfl) | (obtain ⟨_, _, _, _, rfl, _⟩ := h; rfl) | (obtain ⟨rfl, _⟩ := h; rfl)) fun f cdv A' outer s H vs Q E hr hsp => ⟨t_Book___setitem__ K A E, ?_, pure_Book___setitem__ TX hsp⟩
  have hr_ : ∀ j, j ≤ 4 → Room j _ := fun j hj => hr.mono hj
  unfold t_Book___setitem__
  exact (pss_one (ps_fldC T.k_Book T.f_Book__steps (pv 0) (pe_fnX c_with_step (hr_ 4 (by decide)) (passes_call (takes_of rfl rfl rfl rfl) fun _ _ _ _ h => h) rfl (pa_cons (pe_fldC T.k_Book T.f_Book__steps (pv 0)) (pa_cons (pv 1) (pa_cons (pv 2) pa_nil))))))
theorem ok__law_lore (T : Txt P K mg A) (TX : Caught K A) (h : Has K mg "_law_lore" s__law_lore ["_law_pool_here", "_law_steps", "_law_cells"]) (c__law_draw : Cal P w K mg base CX0 2 "_law_draw" ["_law_pool_here", "_law_limit"] (sp__law_draw K A)) (c__law_fresh : Cal P w K mg base CX0 4 "_law_fresh" ["_law_pool_here", "_law_used"] (sp__law_fresh K A)) (c__law_kind : Cal P w K mg base CX0 4 "_law_kind" ["_law_pool_here"] (sp__law_kind K A)) : Cal P w K mg base CX0 5 "_law_lore" ["_law_pool_here", "_law_steps", "_law_cells"] (sp__law_lore K A) := by
  refine h.ok (k := 4) sc__law_lore (fun vs H Q E h => by first | exact An.len_conc (fun ags R X hF => by first | (obtain ⟨rfl, _⟩ := hF; rfl) | (obtain ⟨_, rfl, _⟩ := hF; rfl) | (obtain ⟨_, _, rfl, _⟩ := hF; rfl) | (obtain ⟨_, _, _, rfl, _⟩ := hF; rfl) | (obtain ⟨_, _, _, _, rfl, _⟩ := hF; rfl) | (obtain ⟨_, _, _, _, _, rfl, _⟩ := hF; rfl) | (obtain ⟨_, _, _, _, _, _, rfl, _⟩ := hF; rfl) | (obtain ⟨_, _, _, _, _, _, _, rfl, _⟩ := hF; rfl) | (obtain ⟨_, _, _, _, _, _, _, _, rfl, _⟩ := hF; rfl)) h | (obtain ⟨_, rfl, _⟩ := h; rfl) | (obtain ⟨_, _, rfl, _⟩ := h; rfl) | (obtain ⟨_, _, _, rfl, _⟩ := h; rfl) | (obtain ⟨_, _, _, _, rfl, _⟩ := h; rfl) | (obtain ⟨rfl, _⟩ := h; rfl)) fun f cdv A' outer s H vs Q E hr hsp => ⟨t__law_lore K A, ?_, pure__law_lore TX hsp⟩
  have hr_ : ∀ j, j ≤ 4 → Room j _ := fun j hj => hr.mono hj
  have hu_ := hu65 hr
  unfold t__law_lore
  exact (pss_cons (ps_set (i := 3) sc__law_lore.nd rfl (Or.inl rfl) (pe_lst pa_nil))
  (pss_cons (ps_set (i := 4) sc__law_lore.nd rfl (Or.inl rfl) pe_dnewK)
  (pss_cons (ps_for PassesOwn.never rfl (pi_range1 rfl T.n_range (pa_cons (pe_op op_oAddX pe_int (pe_fn c__law_draw (hr_ 2 (by decide)) rfl (pa_cons (pv 0) (pa_cons (pv 1) pa_nil)))) pa_nil)) (pg_name (i := 5) sc__law_lore.nd rfl (Or.inl rfl))
  (pss_cons (ps_set (i := 7) sc__law_lore.nd rfl (Or.inl rfl) (pe_fn c__law_fresh (hr_ 4 (by decide)) rfl (pa_cons (pv 0) (pa_cons (pv 3) pa_nil))))
  (pss_cons (ps_expr (pe_bm PySem.F.plainAttrs_list PySem.F.slot_list_append PySem.F.type_list_append mt_append (pv 3) (pa_cons (pv 7) pa_nil)))
  (pss_one (ps_asg (pe_fn c__law_kind (hr_ 4 (by decide)) rfl (pa_cons (pv 0) pa_nil)) (pg_sub (pv 4) (pv 7) (set_X hu_)))))))
  (pss_cons (ps_set (i := 6) sc__law_lore.nd rfl (Or.inl rfl) (pe_lst pa_nil))
  (pss_cons (ps_for PassesOwn.never rfl (pi_range1 rfl T.n_range (pa_cons (pe_fn c__law_draw (hr_ 2 (by decide)) rfl (pa_cons (pv 0) (pa_cons (pe_op op_oAddX (pv 2) pe_int) pa_nil))) pa_nil)) (pg_name (i := 5) sc__law_lore.nd rfl (Or.inl rfl))
  (pss_cons (ps_set (i := 7) sc__law_lore.nd rfl (Or.inl rfl) (pe_fn c__law_fresh (hr_ 4 (by decide)) rfl (pa_cons (pv 0) (pa_cons (pe_lc rfl sc__law_lore.nd (own := [("_law_pair", 8)]) (g := (gName 8)) (tt := tYes) (te := (tOp (oIxX K) (tVar 8) (tC (.int 0)))) (pi_any (pv 6)) (blkOk_by (own := [("_law_pair", 8)]) (N := ["_law_pool_here", "_law_steps", "_law_cells", "_law_names", "_law_kinds", "_law_k", "_law_pairs", "_law_name_here", "_law_pair"]) (sc := defScope s__law_lore) (by decide +kernel)) (fun _ _ _ _ _ => (pg_name (i := 8) sc__law_lore.nd rfl (Or.inl rfl))) (fun _ _ _ _ _ => pts_nil) (fun _ _ _ _ _ => (pe_ix (ix_oIxX hu_) (pv 8) pe_int (fun _ _ => rfl)))) pa_nil))))
  (pss_one (ps_expr (pe_bm PySem.F.plainAttrs_list PySem.F.slot_list_append PySem.F.type_list_append mt_append (pv 6) (pa_cons (pe_tup (pa_cons (pv 7) (pa_cons (pe_op op_oAddX pe_int (pe_fn c__law_draw (hr_ 2 (by decide)) rfl (pa_cons (pv 0) (pa_cons pe_int pa_nil)))) pa_nil))) pa_nil))))))
  (pss_cons (ps_if (PW.pt (pw_and (pt_cmpR (op_oEq hu_) (pe_callB call_cLenX rfl T.n_len bi_len (pa_cons (pv 6) pa_nil)) pe_int (nomark _)) (pw_and1 (pt_cmpR op_oLtS (pe_ix (ix_oIxX hu_) (pe_ix (ix_oIxX hu_) (pv 6) pe_int (fun _ _ => rfl)) pe_int (fun _ _ => rfl)) (pe_ix (ix_oIxX hu_) (pe_ix (ix_oIxX hu_) (pv 6) pe_int (fun _ _ => rfl)) pe_int (fun _ _ => rfl)) (nomark _)))))
  (pss_one (ps_set (i := 6) sc__law_lore.nd rfl (Or.inl rfl) (pe_lst (pa_cons (pe_ix (ix_oIxX hu_) (pv 6) pe_int (fun _ _ => rfl)) (pa_cons (pe_ix (ix_oIxX hu_) (pv 6) pe_int (fun _ _ => rfl)) pa_nil)))))
  pss_nil)
  (pss_one (ps_ret (pe_lst (pa_cons (pv 3) (pa_cons (pv 4) (pa_cons (pv 6) pa_nil))))))))))))
theorem ok__law_book (T : Txt P K mg A) (TX : Caught K A) (h : Has K mg "_law_book" s__law_book ["_law_lore_here"]) (c_Book___init__ : MCal P w K mg base CX0 1 A.c_Book "__init__" ["self"] (sp_Book___init__ K A)) (c_Book___setitem__ : MCal P w K mg base (L2.CX P w) 5 A.c_Book "__setitem__" ["self", "name", "kind"] (sp_Book___setitem__ K A)) (c_Book_add_cell : MCal P w K mg base (L2.CX P w) 3 A.c_Book "add_cell" ["self", "name", "size"] (sp_Book_add_cell K A)) : Cal P w K mg base CX0 6 "_law_book" ["_law_lore_here"] (sp__law_book K A) := by
  refine h.ok (k := 5) sc__law_book (fun vs H Q E h => by first | exact An.len_conc (fun ags R X hF => by first | (obtain ⟨rfl, _⟩ := hF; rfl) | (obtain ⟨_, rfl, _⟩ := hF; rfl) | (obtain ⟨_, _, rfl, _⟩ := hF; rfl) | (obtain ⟨_, _, _, rfl, _⟩ := hF; rfl) | (obtain ⟨_, _, _, _, rfl, _⟩ := hF; rfl) | (obtain ⟨_, _, _, _, _, rfl, _⟩ := hF; rfl) | (obtain ⟨_, _, _, _, _, _, rfl, _⟩ := hF; rfl) | (obtain ⟨_, _, _, _, _, _, _, rfl, _⟩ := hF; rfl) | (obtain ⟨_, _, _, _, _, _, _, _, rfl, _⟩ := hF; rfl)) h | (obtain ⟨_, rfl, _⟩ := h; rfl) | (obtain ⟨_, _, rfl, _⟩ := h; rfl) | (obtain ⟨_, _, _, rfl, _⟩ := h; rfl) | (obtain ⟨_, _, _, _, rfl, _⟩ := h; rfl) | (obtain ⟨rfl, _⟩ := h; rfl)) fun f cdv A' outer s H vs Q E hr hsp => ⟨t__law_book K A, ?_, pure__law_book TX hsp⟩
  have hr_ : ∀ j, j ≤ 5 → Room j _ := fun j hj => hr.mono hj
  have hu_ := hu65 hr
  unfold t__law_book
  exact (pss_cons (ps_set (i := 1) sc__law_book.nd rfl (Or.inl rfl) (pe_mk0 T.m_Book c_Book___init__ (hr_ 2 (by decide)) pass0 rfl))
  (pss_cons (ps_for PassesOwn.never rfl (pi_any (pe_ix (ix_oIxX hu_) (pv 0) pe_int (fun _ _ => rfl))) (pg_name (i := 2) sc__law_book.nd rfl (Or.inl rfl))
  (pss_one (ps_asg (pe_ix (ix_oIxX hu_) (pe_ix (ix_oIxX hu_) (pv 0) pe_int (fun _ _ => rfl)) (pv 2) (fun _ _ => rfl)) (pg_subS (pv 1) (pv 2) c_Book___setitem__ (hr_ 5 (by decide)) T.q_Book (fun _ => pAtN)))))
  (pss_cons (ps_for PassesOwn.never rfl (pi_any (pe_ix (ix_oIxX hu_) (pv 0) pe_int (fun _ _ => rfl))) (pg_name (i := 3) sc__law_book.nd rfl (Or.inl rfl))
  (pss_one (ps_expr (pe_mthS (pv 1) T.k_Book c_Book_add_cell (hr_ 3 (by decide)) (fun _ => pAtN) (pa_cons (pe_ix (ix_oIxX hu_) (pv 3) pe_int (fun _ _ => rfl)) (pa_cons (pe_ix (ix_oIxX hu_) (pv 3) pe_int (fun _ _ => rfl)) pa_nil))))))
  (pss_one (ps_ret (pv 1))))))
theorem rec__law_normal (T : Txt P K mg A) (TX : Caught K A) (h : Has K mg "_law_normal" s__law_normal ["_law_word", "_law_kinds"]) (c__law_split : Cal P w K mg base CX0 2 "_law_split" ["_law_word"] (sp__law_split K A)) (c__law_keep : Cal P w K mg base CX0 2 "_law_keep" ["_law_word", "_law_states", "_law_kinds"] (sp__law_keep K A)) : ∀ n, Cal P w K mg base CX0 (n + 2) "_law_normal" ["_law_word", "_law_kinds"] (rec_law_normal K A n)
  | 0 => h.void (fun _ _ _ _ z => no_law_normal z)
  | n + 1 => by
    have c_rec := rec__law_normal T TX h c__law_split c__law_keep n
    refine h.ok (k := n + 2) sc__law_normal (fun vs H Q E h => by first | exact An.len_conc (fun ags R X hF => by first | (obtain ⟨rfl, _⟩ := hF; rfl) | (obtain ⟨_, rfl, _⟩ := hF; rfl) | (obtain ⟨_, _, rfl, _⟩ := hF; rfl) | (obtain ⟨_, _, _, rfl, _⟩ := hF; rfl) | (obtain ⟨_, _, _, _, rfl, _⟩ := hF; rfl) | (obtain ⟨_, _, _, _, _, rfl, _⟩ := hF; rfl) | (obtain ⟨_, _, _, _, _, _, rfl, _⟩ := hF; rfl) | (obtain ⟨_, _, _, _, _, _, _, rfl, _⟩ := hF; rfl) | (obtain ⟨_, _, _, _, _, _, _, _, rfl, _⟩ := hF; rfl)) h | (obtain ⟨_, rfl, _⟩ := h; rfl) | (obtain ⟨_, _, rfl, _⟩ := h; rfl) | (obtain ⟨_, _, _, rfl, _⟩ := h; rfl) | (obtain ⟨_, _, _, _, rfl, _⟩ := h; rfl) | (obtain ⟨rfl, _⟩ := h; rfl)) fun f cdv A' outer s H vs Q E hr hsp => ⟨t__law_normal K A (rec_law_normal K A n), ?_, pure__law_normal TX hsp⟩
    have hr_ : ∀ j, j ≤ 2 → Room j _ := fun j hj => hr.mono (by omega)
    have hu_ := hu65 hr
    unfold t__law_normal
    exact (pss_cons (ps_set (i := 2) sc__law_normal.nd rfl (Or.inl rfl) (pe_lst pa_nil))
  (pss_cons (ps_for PassesOwn.never rfl (pi_any (pe_fn c__law_split (hr_ 2 (by decide)) rfl (pa_cons (pv 0) pa_nil))) (pg_name (i := 3) sc__law_normal.nd rfl (Or.inl rfl))
  (pss_cons (ps_set (i := 4) sc__law_normal.nd rfl (Or.inl rfl) (pe_fn c__law_keep (hr_ 2 (by decide)) rfl (pa_cons (pe_fn c_rec hr rfl (pa_cons (pe_ix (ix_oIxX hu_) (pv 3) pe_int (fun _ _ => rfl)) (pa_cons (pv 1) pa_nil))) (pa_cons (pe_tup (pa_cons pe_str pa_nil)) (pa_cons (pv 1) pa_nil)))))
  (pss_cons (ps_set (i := 5) sc__law_normal.nd rfl (Or.inl rfl) pe_int)
  (pss_cons (ps_for PassesOwn.never rfl (pi_range1 rfl T.n_range (pa_cons (pe_callB call_cLenX rfl T.n_len bi_len (pa_cons (pv 4) pa_nil)) pa_nil)) (pg_name (i := 6) sc__law_normal.nd rfl (Or.inl rfl))
  (pss_one (ps_if (PW.pt (pw_and (pt_cmpR (op_oEq hu_) (pv 5) (pv 6) (nomark _)) (pw_and1 (pt_cmpR (op_oEq hu_) (pe_ix (ix_oIxX hu_) (pe_ix (ix_oIxX hu_) (pv 4) (pv 6) (fun _ _ => rfl)) pe_int (fun _ _ => rfl)) pe_str (nomark _)))))
  (pss_one (ps_set (i := 5) sc__law_normal.nd rfl (Or.inl rfl) (pe_op op_oAddX (pv 6) pe_int)))
  pss_nil)))
  (pss_one (ps_set (i := 2) sc__law_normal.nd rfl (Or.inl rfl) (pe_op op_oAddX (pe_op op_oAddX (pv 2) (pe_callTy call_cList rfl T.n_list bi_list (pa_cons (pe_slice sl_oSlX (pv 4) po_none (po_some (pv 5))) pa_nil))) (pe_lst (pa_cons (pe_tup (pa_cons (pe_ix (ix_oIxX hu_) (pv 3) pe_int (fun _ _ => rfl)) (pa_cons (pe_ix (ix_oIxX hu_) (pv 3) pe_int (fun _ _ => rfl)) (pa_cons (pe_ix (ix_oIxX hu_) (pv 3) pe_int (fun _ _ => rfl)) (pa_cons (pe_slice sl_oSlX (pv 4) (po_some (pv 5)) po_none) pa_nil))))) pa_nil)))))))))
  (pss_one (ps_ret (pe_callTy call_cTupX rfl T.n_tuple bi_tuple (pa_cons (pv 2) pa_nil))))))
theorem ok__law_normal (T : Txt P K mg A) (TX : Caught K A) (h : Has K mg "_law_normal" s__law_normal ["_law_word", "_law_kinds"]) (c__law_split : Cal P w K mg base CX0 2 "_law_split" ["_law_word"] (sp__law_split K A)) (c__law_keep : Cal P w K mg base CX0 2 "_law_keep" ["_law_word", "_law_states", "_law_kinds"] (sp__law_keep K A)) : Cal P w K mg base CX0 6 "_law_normal" ["_law_word", "_law_kinds"] (sp__law_normal K A) := rec__law_normal T TX h c__law_split c__law_keep 4
theorem rec__law_action (T : Txt P K mg A) (TX : Caught K A) (h : Has K mg "_law_action" s__law_action ["_law_pool_here", "_law_lore_here", "_law_depth"]) (c__law_draw : Cal P w K mg base CX0 2 "_law_draw" ["_law_pool_here", "_law_limit"] (sp__law_draw K A)) (c__law_argument : Cal P w K mg base CX0 4 "_law_argument" ["_law_pool_here", "_law_lore_here", "_law_late"] (sp__law_argument K A)) : ∀ n, Cal P w K mg base CX0 (n + 4) "_law_action" ["_law_pool_here", "_law_lore_here", "_law_depth"] (rec_law_action K A n)
  | 0 => h.void (fun _ _ _ _ z => no_law_action z)
  | n + 1 => by
    have c_rec := rec__law_action T TX h c__law_draw c__law_argument n
    refine h.ok (k := n + 4) sc__law_action (fun vs H Q E h => by first | exact An.len_conc (fun ags R X hF => by first | (obtain ⟨rfl, _⟩ := hF; rfl) | (obtain ⟨_, rfl, _⟩ := hF; rfl) | (obtain ⟨_, _, rfl, _⟩ := hF; rfl) | (obtain ⟨_, _, _, rfl, _⟩ := hF; rfl) | (obtain ⟨_, _, _, _, rfl, _⟩ := hF; rfl) | (obtain ⟨_, _, _, _, _, rfl, _⟩ := hF; rfl) | (obtain ⟨_, _, _, _, _, _, rfl, _⟩ := hF; rfl) | (obtain ⟨_, _, _, _, _, _, _, rfl, _⟩ := hF; rfl) | (obtain ⟨_, _, _, _, _, _, _, _, rfl, _⟩ := hF; rfl)) h | (obtain ⟨_, rfl, _⟩ := h; rfl) | (obtain ⟨_, _, rfl, _⟩ := h; rfl) | (obtain ⟨_, _, _, rfl, _⟩ := h; rfl) | (obtain ⟨_, _, _, _, rfl, _⟩ := h; rfl) | (obtain ⟨rfl, _⟩ := h; rfl)) fun f cdv A' outer s H vs Q E hr hsp => ⟨t__law_action K A (rec_law_action K A n), ?_, pure__law_action TX hsp⟩
    have hr_ : ∀ j, j ≤ 4 → Room j _ := fun j hj => hr.mono (by omega)
    have hu_ := hu65 hr
    unfold t__law_action
    exact (pss_cons (ps_set (i := 3) sc__law_action.nd rfl (Or.inl rfl) (pe_ix (ix_oIxX hu_) (pe_lst (pa_cons pe_str (pa_cons pe_str (pa_cons pe_str pa_nil)))) (pe_fn c__law_draw (hr_ 2 (by decide)) rfl (pa_cons (pv 0) (pa_cons pe_int pa_nil))) (fun _ _ => rfl)))
  (pss_cons (ps_set (i := 4) sc__law_action.nd rfl (Or.inl rfl) (pe_ix (ix_oIxX hu_) (pe_ix (ix_oIxX hu_) (pv 1) pe_int (fun _ _ => rfl)) (pe_fn c__law_draw (hr_ 2 (by decide)) rfl (pa_cons (pv 0) (pa_cons (pe_callB call_cLenX rfl T.n_len bi_len (pa_cons (pe_ix (ix_oIxX hu_) (pv 1) pe_int (fun _ _ => rfl)) pa_nil)) pa_nil))) (fun _ _ => rfl)))
  (pss_cons (ps_set (i := 5) sc__law_action.nd rfl (Or.inl rfl) (pe_fn c__law_argument (hr_ 4 (by decide)) rfl (pa_cons (pv 0) (pa_cons (pv 1) (pa_cons pe_bl pa_nil)))))
  (pss_cons (ps_set (i := 6) sc__law_action.nd rfl (Or.inl rfl) (pe_tup pa_nil))
  (pss_cons (ps_if (PW.pt (pw_and (pt_cmpR (op_oNe hu_) (pv 3) pe_str (nomark _)) (pw_and (pt_cmpR op_oLt (pv 2) pe_int (nomark _)) (pw_and1 (pt_cmpR (op_oEq hu_) (pe_fn c__law_draw (hr_ 2 (by decide)) rfl (pa_cons (pv 0) (pa_cons pe_int pa_nil))) pe_int (nomark _))))))
  (pss_one (ps_for PassesOwn.never rfl (pi_range1 rfl T.n_range (pa_cons (pe_op op_oAddX pe_int (pe_fn c__law_draw (hr_ 2 (by decide)) rfl (pa_cons (pv 0) (pa_cons (pe_op op_oSub pe_int (pv 2)) pa_nil)))) pa_nil)) (pg_name (i := 7) sc__law_action.nd rfl (Or.inl rfl))
  (pss_one (ps_set (i := 6) sc__law_action.nd rfl (Or.inl rfl) (pe_op op_oAddX (pv 6) (pe_tup (pa_cons (pe_fn c_rec hr rfl (pa_cons (pv 0) (pa_cons (pv 1) (pa_cons (pe_op op_oAddX (pv 2) pe_int) pa_nil)))) pa_nil)))))))
  pss_nil)
  (pss_one (ps_ret (pe_tup (pa_cons (pv 3) (pa_cons (pv 4) (pa_cons (pv 5) (pa_cons (pv 6) pa_nil))))))))))))
theorem ok__law_action (T : Txt P K mg A) (TX : Caught K A) (h : Has K mg "_law_action" s__law_action ["_law_pool_here", "_law_lore_here", "_law_depth"]) (c__law_draw : Cal P w K mg base CX0 2 "_law_draw" ["_law_pool_here", "_law_limit"] (sp__law_draw K A)) (c__law_argument : Cal P w K mg base CX0 4 "_law_argument" ["_law_pool_here", "_law_lore_here", "_law_late"] (sp__law_argument K A)) : Cal P w K mg base CX0 7 "_law_action" ["_law_pool_here", "_law_lore_here", "_law_depth"] (sp__law_action K A) := rec__law_action T TX h c__law_draw c__law_argument 3
theorem ok__law_rich (T : Txt P K mg A) (TX : Caught K A) (h : Has K mg "_law_rich" s__law_rich ["_law_pool_here", "_law_lore_here"]) (c__law_draw : Cal P w K mg base CX0 2 "_law_draw" ["_law_pool_here", "_law_limit"] (sp__law_draw K A)) (c__law_action : Cal P w K mg base CX0 7 "_law_action" ["_law_pool_here", "_law_lore_here", "_law_depth"] (sp__law_action K A)) (c__law_argument : Cal P w K mg base CX0 4 "_law_argument" ["_law_pool_here", "_law_lore_here", "_law_late"] (sp__law_argument K A)) : Cal P w K mg base CX0 8 "_law_rich" ["_law_pool_here", "_law_lore_here"] (sp__law_rich K A) := by
  refine h.ok (k := 7) sc__law_rich (fun vs H Q E h => by first | exact An.len_conc (fun ags R X hF => by first | (obtain ⟨rfl, _⟩ := hF; rfl) | (obtain ⟨_, rfl, _⟩ := hF; rfl) | (obtain ⟨_, _, rfl, _⟩ := hF; rfl) | (obtain ⟨_, _, _, rfl, _⟩ := hF; rfl) | (obtain ⟨_, _, _, _, rfl, _⟩ := hF; rfl) | (obtain ⟨_, _, _, _, _, rfl, _⟩ := hF; rfl) | (obtain ⟨_, _, _, _, _, _, rfl, _⟩ := hF; rfl) | (obtain ⟨_, _, _, _, _, _, _, rfl, _⟩ := hF; rfl) | (obtain ⟨_, _, _, _, _, _, _, _, rfl, _⟩ := hF; rfl)) h | (obtain ⟨_, rfl, _⟩ := h; rfl) | (obtain ⟨_, _, rfl, _⟩ := h; rfl) | (obtain ⟨_, _, _, rfl, _⟩ := h; rfl) | (obtain ⟨_, _, _, _, rfl, _⟩ := h; rfl) | (obtain ⟨rfl, _⟩ := h; rfl)) fun f cdv A' outer s H vs Q E hr hsp => ⟨t__law_rich K A, ?_, pure__law_rich TX hsp⟩
  have hr_ : ∀ j, j ≤ 7 → Room j _ := fun j hj => hr.mono hj
  have hu_ := hu65 hr
  unfold t__law_rich
  exact (pss_cons (ps_if (pt_cmpR (op_oEq hu_) (pe_fn c__law_draw (hr_ 2 (by decide)) rfl (pa_cons (pv 0) (pa_cons pe_int pa_nil))) pe_int (nomark _))
  (pss_one (ps_ret (pe_fn c__law_action (hr_ 7 (by decide)) rfl (pa_cons (pv 0) (pa_cons (pv 1) (pa_cons pe_int pa_nil))))))
  pss_nil)
  (pss_cons (ps_set (i := 2) sc__law_rich.nd rfl (Or.inl rfl) (pe_tup pa_nil))
  (pss_cons (ps_for PassesOwn.never rfl (pi_range1 rfl T.n_range (pa_cons (pe_op op_oAddX pe_int (pe_fn c__law_draw (hr_ 2 (by decide)) rfl (pa_cons (pv 0) (pa_cons pe_int pa_nil)))) pa_nil)) (pg_name (i := 3) sc__law_rich.nd rfl (Or.inl rfl))
  (pss_one (ps_set (i := 2) sc__law_rich.nd rfl (Or.inl rfl) (pe_op op_oAddX (pv 2) (pe_tup (pa_cons (pe_fn c__law_action (hr_ 7 (by decide)) rfl (pa_cons (pv 0) (pa_cons (pv 1) (pa_cons pe_int pa_nil)))) pa_nil))))))
  (pss_cons (ps_set (i := 4) sc__law_rich.nd rfl (Or.inl rfl) (pe_ix (ix_oIxX hu_) (pe_ix (ix_oIxX hu_) (pv 1) pe_int (fun _ _ => rfl)) (pe_fn c__law_draw (hr_ 2 (by decide)) rfl (pa_cons (pv 0) (pa_cons (pe_callB call_cLenX rfl T.n_len bi_len (pa_cons (pe_ix (ix_oIxX hu_) (pv 1) pe_int (fun _ _ => rfl)) pa_nil)) pa_nil))) (fun _ _ => rfl)))
  (pss_one (ps_ret (pe_tup (pa_cons (pe_ix (ix_oIxX hu_) (pe_lst (pa_cons pe_str (pa_cons pe_str pa_nil))) (pe_fn c__law_draw (hr_ 2 (by decide)) rfl (pa_cons (pv 0) (pa_cons pe_int pa_nil))) (fun _ _ => rfl)) (pa_cons (pv 4) (pa_cons (pe_fn c__law_argument (hr_ 4 (by decide)) rfl (pa_cons (pv 0) (pa_cons (pv 1) (pa_cons pe_bl pa_nil)))) (pa_cons (pv 2) pa_nil)))))))))))
theorem rec__law_same (T : Txt P K mg A) (TX : Caught K A) (h : Has K mg "_law_same" s__law_same ["_law_actual", "_law_expected"]) : ∀ n, Cal P w K mg base CX0 (n + 1) "_law_same" ["_law_actual", "_law_expected"] (rec_law_same K A n)
  | 0 => h.void (fun _ _ _ _ z => no_law_same z)
  | n + 1 => by
    have c_rec := rec__law_same T TX h n
    refine h.ok (k := n + 1) sc__law_same (fun vs H Q E h => by first | exact An.len_conc (fun ags R X hF => by first | (obtain ⟨rfl, _⟩ := hF; rfl) | (obtain ⟨_, rfl, _⟩ := hF; rfl) | (obtain ⟨_, _, rfl, _⟩ := hF; rfl) | (obtain ⟨_, _, _, rfl, _⟩ := hF; rfl) | (obtain ⟨_, _, _, _, rfl, _⟩ := hF; rfl) | (obtain ⟨_, _, _, _, _, rfl, _⟩ := hF; rfl) | (obtain ⟨_, _, _, _, _, _, rfl, _⟩ := hF; rfl) | (obtain ⟨_, _, _, _, _, _, _, rfl, _⟩ := hF; rfl) | (obtain ⟨_, _, _, _, _, _, _, _, rfl, _⟩ := hF; rfl)) h | (obtain ⟨_, rfl, _⟩ := h; rfl) | (obtain ⟨_, _, rfl, _⟩ := h; rfl) | (obtain ⟨_, _, _, rfl, _⟩ := h; rfl) | (obtain ⟨_, _, _, _, rfl, _⟩ := h; rfl) | (obtain ⟨rfl, _⟩ := h; rfl)) fun f cdv A' outer s H vs Q E hr hsp => ⟨t__law_same K A (rec_law_same K A n), ?_, pure__law_same TX hsp⟩
    have hu_ := hu65 hr
    unfold t__law_same
    exact (pss_cons (ps_if (pt_cmpR op_oIsN (pv 1) pe_non (nomark _))
  (pss_one (ps_ret (pe_cmpR op_oIsN (pv 0) pe_non (nomark _))))
  pss_nil)
  (pss_cons (ps_if (pt_val (pe_callB call_cIsiX rfl T.n_isinstance bi_isinstance (pa_cons (pv 1) (pa_cons (pe_bltn (v := .ty "bool") rfl T.n_bool bi_bool rfl) pa_nil))))
  (pss_one (ps_ret (pe_and (pe_callB call_cIsiX rfl T.n_isinstance bi_isinstance (pa_cons (pv 0) (pa_cons (pe_bltn (v := .ty "bool") rfl T.n_bool bi_bool rfl) pa_nil))) (pe_one (pe_cmpR (op_oEq hu_) (pv 0) (pv 1) (nomark _))))))
  pss_nil)
  (pss_cons (ps_if (pt_val (pe_callB call_cIsiX rfl T.n_isinstance bi_isinstance (pa_cons (pv 1) (pa_cons (pe_bltn (v := .ty "int") rfl T.n_int bi_int rfl) pa_nil))))
  (pss_one (ps_ret (pe_and (pe_callB call_cIsiX rfl T.n_isinstance bi_isinstance (pa_cons (pv 0) (pa_cons (pe_bltn (v := .ty "int") rfl T.n_int bi_int rfl) pa_nil))) (pe_and (pe_not (pe_callB call_cIsiX rfl T.n_isinstance bi_isinstance (pa_cons (pv 0) (pa_cons (pe_bltn (v := .ty "bool") rfl T.n_bool bi_bool rfl) pa_nil)))) (pe_one (pe_cmpR (op_oEq hu_) (pv 0) (pv 1) (nomark _)))))))
  pss_nil)
  (pss_cons (ps_if (pt_val (pe_callB call_cIsiX rfl T.n_isinstance bi_isinstance (pa_cons (pv 1) (pa_cons (pe_bltn (v := .ty "str") rfl T.n_str bi_str rfl) pa_nil))))
  (pss_one (ps_ret (pe_and (pe_callB call_cIsiX rfl T.n_isinstance bi_isinstance (pa_cons (pv 0) (pa_cons (pe_bltn (v := .ty "str") rfl T.n_str bi_str rfl) pa_nil))) (pe_one (pe_cmpR (op_oEq hu_) (pv 0) (pv 1) (nomark _))))))
  pss_nil)
  (pss_cons (ps_if (PW.pt (pw_and (pt_val (pe_callB call_cIsiX rfl T.n_isinstance bi_isinstance (pa_cons (pv 1) (pa_cons (pe_bltn (v := .ty "tuple") rfl T.n_tuple bi_tuple rfl) pa_nil)))) (pw_and1 (pt_not (pt_val (pe_callB call_cIsiX rfl T.n_isinstance bi_isinstance (pa_cons (pv 0) (pa_cons (pe_bltn (v := .ty "tuple") rfl T.n_tuple bi_tuple rfl) pa_nil))))))))
  (pss_one (ps_ret pe_bl))
  pss_nil)
  (pss_cons (ps_if (PW.pt (pw_and (pt_val (pe_callB call_cIsiX rfl T.n_isinstance bi_isinstance (pa_cons (pv 1) (pa_cons (pe_bltn (v := .ty "list") rfl T.n_list bi_list rfl) pa_nil)))) (pw_and1 (pt_not (pt_val (pe_callB call_cIsiX rfl T.n_isinstance bi_isinstance (pa_cons (pv 0) (pa_cons (pe_bltn (v := .ty "list") rfl T.n_list bi_list rfl) pa_nil))))))))
  (pss_one (ps_ret pe_bl))
  pss_nil)
  (pss_cons (ps_if (pt_cmpR (op_oNe hu_) (pe_callB call_cLenX rfl T.n_len bi_len (pa_cons (pv 0) pa_nil)) (pe_callB call_cLenX rfl T.n_len bi_len (pa_cons (pv 1) pa_nil)) (nomark _))
  (pss_one (ps_ret pe_bl))
  pss_nil)
  (pss_cons (ps_for PassesOwn.never rfl (pi_range1 rfl T.n_range (pa_cons (pe_callB call_cLenX rfl T.n_len bi_len (pa_cons (pv 1) pa_nil)) pa_nil)) (pg_name (i := 2) sc__law_same.nd rfl (Or.inl rfl))
  (pss_one (ps_if (pt_not (pt_val (pe_fn c_rec hr rfl (pa_cons (pe_ix (ix_oIxX hu_) (pv 0) (pv 2) (fun _ _ => rfl)) (pa_cons (pe_ix (ix_oIxX hu_) (pv 1) (pv 2) (fun _ _ => rfl)) pa_nil)))))
  (pss_one (ps_ret pe_bl))
  pss_nil)))
  (pss_one (ps_ret pe_bl))))))))))
theorem ok__law_same (T : Txt P K mg A) (TX : Caught K A) (h : Has K mg "_law_same" s__law_same ["_law_actual", "_law_expected"]) : Cal P w K mg base CX0 10 "_law_same" ["_law_actual", "_law_expected"] (sp__law_same K A) := rec__law_same T TX h 9
theorem recr_live (T : Txt P K mg A) (TX : Caught K A) (h2 : Has K mg "live" s_live ["word", "states", "book"]) (c_all_halves : Cal P w K mg base CX0 2 "all_halves" ["word"] (sp_all_halves K A)) (c_live_halves : Cal P w K mg base CX0 5 "live_halves" ["word", "states", "book"] (sp_live_halves K A)) {n : Nat} (c_rec : Cal P w K mg base CX0 (2 * n + 5) "normal" ["word", "book"] (recnormal K A n)) : Cal P w K mg base CX0 (2 * n + 5 + 1) "live" ["word", "states", "book"] (reclive K A n) := by
  refine h2.ok (k := 2 * n + 5) sc_live (fun vs H Q E h => by rcases n with _ | n <;> first | exact An.len_conc (fun ags R X hF => (show False from hF).elim) h | exact (by first | exact An.len_conc (fun ags R X hF => by first | (obtain ⟨rfl, _⟩ := hF; rfl) | (obtain ⟨_, rfl, _⟩ := hF; rfl) | (obtain ⟨_, _, rfl, _⟩ := hF; rfl) | (obtain ⟨_, _, _, rfl, _⟩ := hF; rfl) | (obtain ⟨_, _, _, _, rfl, _⟩ := hF; rfl) | (obtain ⟨_, _, _, _, _, rfl, _⟩ := hF; rfl) | (obtain ⟨_, _, _, _, _, _, rfl, _⟩ := hF; rfl) | (obtain ⟨_, _, _, _, _, _, _, rfl, _⟩ := hF; rfl) | (obtain ⟨_, _, _, _, _, _, _, _, rfl, _⟩ := hF; rfl)) h | (obtain ⟨_, rfl, _⟩ := h; rfl) | (obtain ⟨_, _, rfl, _⟩ := h; rfl) | (obtain ⟨_, _, _, rfl, _⟩ := h; rfl) | (obtain ⟨_, _, _, _, rfl, _⟩ := h; rfl) | (obtain ⟨rfl, _⟩ := h; rfl))) fun f cdv A' outer s H vs Q E hr hsp => ⟨t_live K A (recnormal K A n), ?_, pure_live TX hsp⟩
  have hr_ : ∀ j, j ≤ 5 → Room j _ := fun j hj => hr.mono (by omega)
  unfold t_live
  exact (pss_one (ps_ret (pe_fn c_live_halves (hr_ 5 (by decide)) rfl (pa_cons (pe_fn c_rec hr rfl (pa_cons (pv 0) (pa_cons (pv 2) pa_nil))) (pa_cons (pv 1) (pa_cons (pv 2) pa_nil))))))
theorem rec_normal (T : Txt P K mg A) (TX : Caught K A) (h : Has K mg "normal" s_normal ["word", "book"]) (h2 : Has K mg "live" s_live ["word", "states", "book"]) (c_all_halves : Cal P w K mg base CX0 2 "all_halves" ["word"] (sp_all_halves K A)) (c_live_halves : Cal P w K mg base CX0 5 "live_halves" ["word", "states", "book"] (sp_live_halves K A)) : ∀ n, Cal P w K mg base CX0 (2 * n + 5) "normal" ["word", "book"] (recnormal K A n)
  | 0 => h.void (fun _ _ _ _ z => nonormal z)
  | n + 1 => by
    have c_rec := recr_live T TX h2 c_all_halves c_live_halves (rec_normal T TX h h2 c_all_halves c_live_halves n)
    refine h.ok (k := 2 * n + 5 + 1) sc_normal (fun vs H Q E h => by first | exact An.len_conc (fun ags R X hF => by first | (obtain ⟨rfl, _⟩ := hF; rfl) | (obtain ⟨_, rfl, _⟩ := hF; rfl) | (obtain ⟨_, _, rfl, _⟩ := hF; rfl) | (obtain ⟨_, _, _, rfl, _⟩ := hF; rfl) | (obtain ⟨_, _, _, _, rfl, _⟩ := hF; rfl) | (obtain ⟨_, _, _, _, _, rfl, _⟩ := hF; rfl) | (obtain ⟨_, _, _, _, _, _, rfl, _⟩ := hF; rfl) | (obtain ⟨_, _, _, _, _, _, _, rfl, _⟩ := hF; rfl) | (obtain ⟨_, _, _, _, _, _, _, _, rfl, _⟩ := hF; rfl)) h | (obtain ⟨_, rfl, _⟩ := h; rfl) | (obtain ⟨_, _, rfl, _⟩ := h; rfl) | (obtain ⟨_, _, _, rfl, _⟩ := h; rfl) | (obtain ⟨_, _, _, _, rfl, _⟩ := h; rfl) | (obtain ⟨rfl, _⟩ := h; rfl)) fun f cdv A' outer s H vs Q E hr hsp => ⟨t_normal K A (reclive K A n), ?_, pure_normal TX hsp⟩
    have hr_ : ∀ j, j ≤ 5 → Room j _ := fun j hj => hr.mono (by omega)
    have hu_ := hu65 hr
    unfold t_normal
    exact (pss_cons (ps_set (i := 2) sc_normal.nd rfl (Or.inl rfl) (pe_lst pa_nil))
  (pss_cons (ps_for PassesOwn.never rfl (pi_any (pe_fn c_all_halves (hr_ 2 (by decide)) rfl (pa_cons (pv 0) pa_nil))) (pg_tup rfl (pgs_cons (pg_name (i := 3) sc_normal.nd rfl (Or.inl rfl)) (pgs_cons (pg_name (i := 4) sc_normal.nd rfl (Or.inl rfl)) (pgs_cons (pg_name (i := 5) sc_normal.nd rfl (Or.inl rfl)) (pgs_cons (pg_name (i := 6) sc_normal.nd rfl (Or.inl rfl)) pgs_nil)))))
  (pss_cons (ps_set (i := 7) sc_normal.nd rfl (Or.inl rfl) (pe_fn c_rec hr rfl (pa_cons (pv 6) (pa_cons (pe_gs rfl T.g_DONE) (pa_cons (pv 1) pa_nil)))))
  (pss_cons (ps_set (i := 8) sc_normal.nd rfl (Or.inl rfl) pe_int)
  (pss_cons (ps_while PassesOwn.never (PW.pt (pw_and (pt_cmpR op_oLt (pv 8) (pe_callB call_cLenX rfl T.n_len bi_len (pa_cons (pv 7) pa_nil)) (nomark _)) (pw_and1 (pt_cmpR (op_oEq hu_) (pe_ix (ix_oIxX hu_) (pe_ix (ix_oIxX hu_) (pv 7) (pv 8) (fun _ _ => rfl)) pe_int (fun _ _ => rfl)) pe_str (nomark _)))))
  (pss_one (ps_set (i := 8) sc_normal.nd rfl (Or.inl rfl) (pe_op op_oAddX (pv 8) pe_int))))
  (pss_cons (ps_expr (pe_bm PySem.F.plainAttrs_list PySem.F.slot_list_extend PySem.F.type_list_extend mt_extendX (pv 2) (pa_cons (pe_slice sl_oSlX (pv 7) po_none (po_some (pv 8))) pa_nil)))
  (pss_one (ps_expr (pe_bm PySem.F.plainAttrs_list PySem.F.slot_list_append PySem.F.type_list_append mt_append (pv 2) (pa_cons (pe_tup (pa_cons (pv 3) (pa_cons (pv 4) (pa_cons (pv 5) (pa_cons (pe_slice sl_oSlX (pv 7) (po_some (pv 8)) po_none) pa_nil))))) pa_nil)))))))))
  (pss_one (ps_ret (pe_callTy call_cTupX rfl T.n_tuple bi_tuple (pa_cons (pv 2) pa_nil))))))
theorem ok_normal (T : Txt P K mg A) (TX : Caught K A) (h : Has K mg "normal" s_normal ["word", "book"]) (h2 : Has K mg "live" s_live ["word", "states", "book"]) (c_all_halves : Cal P w K mg base CX0 2 "all_halves" ["word"] (sp_all_halves K A)) (c_live_halves : Cal P w K mg base CX0 5 "live_halves" ["word", "states", "book"] (sp_live_halves K A)) : Cal P w K mg base CX0 13 "normal" ["word", "book"] (sp_normal K A) := rec_normal T TX h h2 c_all_halves c_live_halves 4
theorem ok_live (T : Txt P K mg A) (TX : Caught K A) (h2 : Has K mg "live" s_live ["word", "states", "book"]) (c_all_halves : Cal P w K mg base CX0 2 "all_halves" ["word"] (sp_all_halves K A)) (c_live_halves : Cal P w K mg base CX0 5 "live_halves" ["word", "states", "book"] (sp_live_halves K A)) (c_normal : Cal P w K mg base CX0 13 "normal" ["word", "book"] (sp_normal K A)) : Cal P w K mg base CX0 14 "live" ["word", "states", "book"] (sp_live K A) := recr_live T TX h2 c_all_halves c_live_halves (n := 4) c_normal
theorem ok_law {f : Addr} {fd : FuncData} (F : Fun K "law" "law" s_law f fd) (T : Txt P K mg A) (TX : Caught K A) (c__law_pool : Cal P w K mg base CX0 1 "_law_pool" ["_law_script"] (sp__law_pool K A)) (c__law_lore : Cal P w K mg base CX0 5 "_law_lore" ["_law_pool_here", "_law_steps", "_law_cells"] (sp__law_lore K A)) (c__law_draw : Cal P w K mg base CX0 2 "_law_draw" ["_law_pool_here", "_law_limit"] (sp__law_draw K A)) (c__law_rich : Cal P w K mg base CX0 8 "_law_rich" ["_law_pool_here", "_law_lore_here"] (sp__law_rich K A)) (c__law_book : Cal P w K mg base CX0 6 "_law_book" ["_law_lore_here"] (sp__law_book K A)) (c__law_keep : Cal P w K mg base CX0 2 "_law_keep" ["_law_word", "_law_states", "_law_kinds"] (sp__law_keep K A)) (c__law_normal : Cal P w K mg base CX0 6 "_law_normal" ["_law_word", "_law_kinds"] (sp__law_normal K A)) (c__law_same : Cal P w K mg base CX0 10 "_law_same" ["_law_actual", "_law_expected"] (sp__law_same K A)) (c_live : Cal P w K mg base CX0 14 "live" ["word", "states", "book"] (sp_live K A)) : FnOk P w K mg base CX0 15 f fd ["_law_script"] (sp_law K A) := by
  refine F.ok (k := 14) sc_law (fun vs H Q E h => by first | exact An.len_conc (fun ags R X hF => by first | (obtain ⟨rfl, _⟩ := hF; rfl) | (obtain ⟨_, rfl, _⟩ := hF; rfl) | (obtain ⟨_, _, rfl, _⟩ := hF; rfl) | (obtain ⟨_, _, _, rfl, _⟩ := hF; rfl) | (obtain ⟨_, _, _, _, rfl, _⟩ := hF; rfl) | (obtain ⟨_, _, _, _, _, rfl, _⟩ := hF; rfl) | (obtain ⟨_, _, _, _, _, _, rfl, _⟩ := hF; rfl) | (obtain ⟨_, _, _, _, _, _, _, rfl, _⟩ := hF; rfl) | (obtain ⟨_, _, _, _, _, _, _, _, rfl, _⟩ := hF; rfl)) h | (obtain ⟨_, rfl, _⟩ := h; rfl) | (obtain ⟨_, _, rfl, _⟩ := h; rfl) | (obtain ⟨_, _, _, rfl, _⟩ := h; rfl) | (obtain ⟨_, _, _, _, rfl, _⟩ := h; rfl) | (obtain ⟨rfl, _⟩ := h; rfl)) fun cdv A' outer s H vs Q E hr hsp => ⟨t_law K A, ?_, pure_law TX hsp⟩
  have hr_ : ∀ j, j ≤ 14 → Room j _ := fun j hj => hr.mono hj
  have hu_ := hu65 hr
  unfold t_law
  exact (pss_cons (ps_set (i := 1) sc_law.nd rfl (Or.inl rfl) (pe_fn c__law_pool (hr_ 1 (by decide)) rfl (pa_cons (pv 0) pa_nil)))
  (pss_cons (ps_set (i := 2) sc_law.nd rfl (Or.inl rfl) (pe_fn c__law_lore (hr_ 5 (by decide)) rfl (pa_cons (pv 1) (pa_cons pe_int (pa_cons pe_int pa_nil)))))
  (pss_cons (ps_set (i := 3) sc_law.nd rfl (Or.inl rfl) (pe_tup pa_nil))
  (pss_cons (ps_for PassesOwn.never rfl (pi_range1 rfl T.n_range (pa_cons (pe_fn c__law_draw (hr_ 2 (by decide)) rfl (pa_cons (pv 1) (pa_cons pe_int pa_nil))) pa_nil)) (pg_name (i := 4) sc_law.nd rfl (Or.inl rfl))
  (pss_one (ps_set (i := 3) sc_law.nd rfl (Or.inl rfl) (pe_op op_oAddX (pv 3) (pe_tup (pa_cons (pe_fn c__law_rich (hr_ 8 (by decide)) rfl (pa_cons (pv 1) (pa_cons (pv 2) pa_nil))) pa_nil))))))
  (pss_cons (ps_set (i := 5) sc_law.nd rfl (Or.inl rfl) (pe_fn c__law_book (hr_ 6 (by decide)) rfl (pa_cons (pv 2) pa_nil)))
  (pss_cons (ps_for PassesOwn.never rfl (pi_any (pe_lst (pa_cons (pe_tup (pa_cons pe_str (pa_cons pe_str pa_nil))) (pa_cons (pe_tup (pa_cons pe_str pa_nil)) (pa_cons (pe_tup pa_nil) (pa_cons (pe_tup (pa_cons pe_str pa_nil)) pa_nil)))))) (pg_name (i := 6) sc_law.nd rfl (Or.inl rfl))
  (pss_one (ps_for PassesOwn.never rfl (pi_any (pe_lst (pa_cons (pv 3) (pa_cons (pe_slice sl_oSlX (pv 3) po_none (po_some (pe_un un_oNeg pe_int))) (pa_cons (pv 3) pa_nil))))) (pg_name (i := 7) sc_law.nd rfl (Or.inl rfl))
  (pss_cons (ps_set (i := 8) sc_law.nd rfl (Or.inl rfl) (pe_fn c__law_keep (hr_ 2 (by decide)) rfl (pa_cons (pe_fn c__law_normal (hr_ 6 (by decide)) rfl (pa_cons (pv 7) (pa_cons (pe_ix (ix_oIxX hu_) (pv 2) pe_int (fun _ _ => rfl)) pa_nil))) (pa_cons (pv 6) (pa_cons (pe_ix (ix_oIxX hu_) (pv 2) pe_int (fun _ _ => rfl)) pa_nil)))))
  (pss_cons (ps_set (i := 9) sc_law.nd rfl (Or.inl rfl) (pe_callTy call_cList rfl T.n_list bi_list (pa_cons (pv 7) pa_nil)))
  (pss_cons (ps_if (PW.pt (pw_or (pt_not (pt_val (pe_fn c__law_same (hr_ 10 (by decide)) rfl (pa_cons (pe_fn c_live (hr_ 14 (by decide)) rfl (pa_cons (pv 7) (pa_cons (pv 6) (pa_cons (pv 5) pa_nil)))) (pa_cons (pv 8) pa_nil))))) (pw_or1 (pt_not (pt_val (pe_fn c__law_same (hr_ 10 (by decide)) rfl (pa_cons (pe_fn c_live (hr_ 14 (by decide)) rfl (pa_cons (pv 9) (pa_cons (pv 6) (pa_cons (pv 5) pa_nil)))) (pa_cons (pv 8) pa_nil))))))))
  (pss_one (ps_ret pe_bl))
  pss_nil)
  (pss_cons (ps_if (pt_not (pt_val (pe_fn c__law_same (hr_ 10 (by decide)) rfl (pa_cons (pv 9) (pa_cons (pe_callTy call_cList rfl T.n_list bi_list (pa_cons (pv 7) pa_nil)) pa_nil)))))
  (pss_one (ps_ret pe_bl))
  pss_nil)
  (pss_one (ps_if (pt_not (pt_val (pe_fn c__law_same (hr_ 10 (by decide)) rfl (pa_cons (pe_fn c_live (hr_ 14 (by decide)) rfl (pa_cons (pv 8) (pa_cons (pv 6) (pa_cons (pv 5) pa_nil)))) (pa_cons (pv 8) pa_nil)))))
  (pss_one (ps_ret pe_bl))
  pss_nil)))))))))
  (pss_one (ps_ret pe_bl))))))))
end
theorem all_law {P : Program} {w : World} {K : PySem.W.Frag} {mg : Str → Option Value} {A : Ad} {fa : Addr} (hfa : mg "law" = some (.ref fa)) (T : Txt P K mg A) (TX : Caught K A)
    (h_is_name : Has K mg "is_name" s_is_name ["text"])
    (h_check_number : Has K mg "check_number" s_check_number ["number"])
    (h_halves : Has K mg "halves" s_halves ["action"])
    (h_at_most : Has K mg "at_most" s_at_most ["entries", "most"])
    (h_Book___getitem__ : MHas K A.c_Book "__getitem__" "Book.__getitem__" s_Book___getitem__ ["self", "name"])
    (h_Book___init__ : MHas K A.c_Book "__init__" "Book.__init__" s_Book___init__ ["self"])
    (h__law_pool : Has K mg "_law_pool" s__law_pool ["_law_script"])
    (h__law_mixed : Has K mg "_law_mixed" s__law_mixed ["_law_cell", "_law_turn", "_law_limit"])
    (h__law_letters : Has K mg "_law_letters" s__law_letters [])
    (h__law_halves : Has K mg "_law_halves" s__law_halves ["_law_action_here"])
    (h__law_backward : Has K mg "_law_backward" s__law_backward ["_law_rows"])
    (h__law_below : Has K mg "_law_below" s__law_below ["_law_half", "_law_states", "_law_kinds"])
    (h_check_name : Has K mg "check_name" s_check_name ["name"])
    (h_all_halves : Has K mg "all_halves" s_all_halves ["word"])
    (h__law_draw : Has K mg "_law_draw" s__law_draw ["_law_pool_here", "_law_limit"])
    (h__law_keep : Has K mg "_law_keep" s__law_keep ["_law_word", "_law_states", "_law_kinds"])
    (h__law_split : Has K mg "_law_split" s__law_split ["_law_word"])
    (h_below : Has K mg "below" s_below ["half", "states", "book"])
    (h_check_kind : Has K mg "check_kind" s_check_kind ["kind"])
    (h_Book_add_cell : MHas K A.c_Book "add_cell" "Book.add_cell" s_Book_add_cell ["self", "name", "size"])
    (h__law_name : Has K mg "_law_name" s__law_name ["_law_pool_here"])
    (h__law_number : Has K mg "_law_number" s__law_number ["_law_pool_here"])
    (h_sifted : Has K mg "sifted" s_sifted ["word", "states", "book"])
    (h_with_step : Has K mg "with_step" s_with_step ["steps", "name", "kind"])
    (h__law_fresh : Has K mg "_law_fresh" s__law_fresh ["_law_pool_here", "_law_used"])
    (h__law_kind : Has K mg "_law_kind" s__law_kind ["_law_pool_here"])
    (h__law_argument : Has K mg "_law_argument" s__law_argument ["_law_pool_here", "_law_lore_here", "_law_late"])
    (h_live_halves : Has K mg "live_halves" s_live_halves ["word", "states", "book"])
    (h_Book___setitem__ : MHas K A.c_Book "__setitem__" "Book.__setitem__" s_Book___setitem__ ["self", "name", "kind"])
    (h__law_lore : Has K mg "_law_lore" s__law_lore ["_law_pool_here", "_law_steps", "_law_cells"])
    (h__law_book : Has K mg "_law_book" s__law_book ["_law_lore_here"])
    (h__law_normal : Has K mg "_law_normal" s__law_normal ["_law_word", "_law_kinds"])
    (h__law_action : Has K mg "_law_action" s__law_action ["_law_pool_here", "_law_lore_here", "_law_depth"])
    (h__law_rich : Has K mg "_law_rich" s__law_rich ["_law_pool_here", "_law_lore_here"])
    (h__law_same : Has K mg "_law_same" s__law_same ["_law_actual", "_law_expected"])
    (h_normal : Has K mg "normal" s_normal ["word", "book"])
    (h_live : Has K mg "live" s_live ["word", "states", "book"])
    (h_law : Has K mg "law" s_law ["_law_script"])
    : ∃ fd : FuncData, (∀ (s : Shared) (u : Value), BindsTo s fd ⟨[u], []⟩ [("_law_script", u)]) ∧ ∀ base : Heap, K.In base → base.Ns mainGlobals mg → FnOk P w K mg base CX0 15 fa fd ["_law_script"] (sp_law K A) := by
  refine law_end h_law hfa fun base hi hn f fd F => ?_
  have c_is_name := ok_is_name (P := P) (w := w) (base := base) T TX h_is_name
  have c_check_number := ok_check_number (P := P) (w := w) (base := base) T TX h_check_number
  have c_halves := ok_halves (P := P) (w := w) (base := base) T TX h_halves
  have c_at_most := ok_at_most (P := P) (w := w) (base := base) T TX h_at_most
  have c_Book___getitem__ := ok_Book___getitem__ (P := P) (w := w) (base := base) T TX h_Book___getitem__
  have c_Book___init__ := ok_Book___init__ (P := P) (w := w) (base := base) T TX h_Book___init__
  have c__law_pool := ok__law_pool (P := P) (w := w) (base := base) T TX h__law_pool
  have c__law_mixed := ok__law_mixed (P := P) (w := w) (base := base) T TX h__law_mixed
  have c__law_letters := ok__law_letters (P := P) (w := w) (base := base) T TX h__law_letters
  have c__law_halves := ok__law_halves (P := P) (w := w) (base := base) T TX h__law_halves
  have c__law_backward := ok__law_backward (P := P) (w := w) (base := base) T TX h__law_backward
  have c__law_below := ok__law_below (P := P) (w := w) (base := base) T TX h__law_below
  have c_check_name := ok_check_name (P := P) (w := w) (base := base) T TX h_check_name c_is_name
  have c_all_halves := ok_all_halves (P := P) (w := w) (base := base) T TX h_all_halves c_halves
  have c__law_draw := ok__law_draw (P := P) (w := w) (base := base) T TX h__law_draw c__law_mixed
  have c__law_keep := ok__law_keep (P := P) (w := w) (base := base) T TX h__law_keep c__law_backward c__law_below
  have c__law_split := ok__law_split (P := P) (w := w) (base := base) T TX h__law_split c__law_halves
  have c_below := ok_below (P := P) (w := w) (base := base) T TX h_below c_Book___getitem__
  have c_check_kind := ok_check_kind (P := P) (w := w) (base := base) T TX h_check_kind c_check_number c_check_name
  have c_Book_add_cell := ok_Book_add_cell (P := P) (w := w) (base := base) T TX h_Book_add_cell c_check_name c_at_most
  have c__law_name := ok__law_name (P := P) (w := w) (base := base) T TX h__law_name c__law_letters c__law_draw
  have c__law_number := ok__law_number (P := P) (w := w) (base := base) T TX h__law_number c__law_draw
  have c_sifted := ok_sifted (P := P) (w := w) (base := base) T TX h_sifted c_below
  have c_with_step := ok_with_step (P := P) (w := w) (base := base) T TX h_with_step c_check_name c_check_kind c_at_most
  have c__law_fresh := ok__law_fresh (P := P) (w := w) (base := base) T TX h__law_fresh c__law_name c__law_letters
  have c__law_kind := ok__law_kind (P := P) (w := w) (base := base) T TX h__law_kind c__law_draw c__law_number c__law_name
  have c__law_argument := ok__law_argument (P := P) (w := w) (base := base) T TX h__law_argument c__law_draw c__law_number
  have c_live_halves := ok_live_halves (P := P) (w := w) (base := base) T TX h_live_halves c_sifted
  have c_Book___setitem__ := ok_Book___setitem__ (P := P) (w := w) (base := base) T TX h_Book___setitem__ c_with_step
  have c__law_lore := ok__law_lore (P := P) (w := w) (base := base) T TX h__law_lore c__law_draw c__law_fresh c__law_kind
  have c__law_book := ok__law_book (P := P) (w := w) (base := base) T TX h__law_book c_Book___init__ c_Book___setitem__ c_Book_add_cell
  have c__law_normal := ok__law_normal (P := P) (w := w) (base := base) T TX h__law_normal c__law_split c__law_keep
  have c__law_action := ok__law_action (P := P) (w := w) (base := base) T TX h__law_action c__law_draw c__law_argument
  have c__law_rich := ok__law_rich (P := P) (w := w) (base := base) T TX h__law_rich c__law_draw c__law_action c__law_argument
  have c__law_same := ok__law_same (P := P) (w := w) (base := base) T TX h__law_same
  have c_normal := ok_normal (P := P) (w := w) (base := base) T TX h_normal h_live c_all_halves c_live_halves
  have c_live := ok_live (P := P) (w := w) (base := base) T TX h_live c_all_halves c_live_halves c_normal
  exact ok_law F T TX c__law_pool c__law_lore c__law_draw c__law_rich c__law_book c__law_keep c__law_normal c__law_same c_live
theorem all_mk {P : Program} {w : World} {K : PySem.W.Frag} {h : Heap} {mg : Str → Option Value} {fa : Addr} (X : K.In h) (G : h.Ns mainGlobals mg) (hfa : mg "law" = some (.ref fa))
    (n_all : PySem.W.nsIn K mainGlobals "all" = some none)
    (n_bool : PySem.W.nsIn K mainGlobals "bool" = some none)
    (n_int : PySem.W.nsIn K mainGlobals "int" = some none)
    (n_isinstance : PySem.W.nsIn K mainGlobals "isinstance" = some none)
    (n_len : PySem.W.nsIn K mainGlobals "len" = some none)
    (n_list : PySem.W.nsIn K mainGlobals "list" = some none)
    (n_range : PySem.W.nsIn K mainGlobals "range" = some none)
    (n_str : PySem.W.nsIn K mainGlobals "str" = some none)
    (n_tuple : PySem.W.nsIn K mainGlobals "tuple" = some none)
    {t_BOTH : Addr} {o_BOTH : Obj} {is_BOTH : Array Value} {nn_BOTH : Nat}
    (z_BOTH : PySem.W.nsIn K mainGlobals "BOTH" = some (some (.ref t_BOTH)))
    (l_BOTH : K.lookup t_BOTH = some o_BOTH)
    (lc_BOTH : o_BOTH.cls = .type "tuple")
    (ld_BOTH : o_BOTH.data = .seq is_BOTH nn_BOTH)
    (lz_BOTH : is_BOTH.size ≤ sizeLine)
    (lv_BOTH : Vals [V.str "done", V.str "error"] is_BOTH.toList)
    {t_CALMING : Addr} {o_CALMING : Obj} {is_CALMING : Array Value} {nn_CALMING : Nat}
    (z_CALMING : PySem.W.nsIn K mainGlobals "CALMING" = some (some (.ref t_CALMING)))
    (l_CALMING : K.lookup t_CALMING = some o_CALMING)
    (lc_CALMING : o_CALMING.cls = .type "tuple")
    (ld_CALMING : o_CALMING.data = .seq is_CALMING nn_CALMING)
    (lz_CALMING : is_CALMING.size ≤ sizeLine)
    (lv_CALMING : Vals [V.str "heal", V.str "jump"] is_CALMING.toList)
    {t_CELL_SIZES : Addr} {o_CELL_SIZES : Obj} {is_CELL_SIZES : Array Value} {nn_CELL_SIZES : Nat}
    (z_CELL_SIZES : PySem.W.nsIn K mainGlobals "CELL_SIZES" = some (some (.ref t_CELL_SIZES)))
    (l_CELL_SIZES : K.lookup t_CELL_SIZES = some o_CELL_SIZES)
    (lc_CELL_SIZES : o_CELL_SIZES.cls = .type "tuple")
    (ld_CELL_SIZES : o_CELL_SIZES.data = .seq is_CELL_SIZES nn_CELL_SIZES)
    (lz_CELL_SIZES : is_CELL_SIZES.size ≤ sizeLine)
    (lv_CELL_SIZES : Vals [V.int 2, V.int 3] is_CELL_SIZES.toList)
    {t_DONE : Addr} {o_DONE : Obj} {is_DONE : Array Value} {nn_DONE : Nat}
    (z_DONE : PySem.W.nsIn K mainGlobals "DONE" = some (some (.ref t_DONE)))
    (l_DONE : K.lookup t_DONE = some o_DONE)
    (lc_DONE : o_DONE.cls = .type "tuple")
    (ld_DONE : o_DONE.data = .seq is_DONE nn_DONE)
    (lz_DONE : is_DONE.size ≤ sizeLine)
    (lv_DONE : Vals [V.str "done"] is_DONE.toList)
    {u_GREATEST_NUMBER : Value}
    (z_GREATEST_NUMBER : PySem.W.nsIn K mainGlobals "GREATEST_NUMBER" = some (some u_GREATEST_NUMBER))
    (r_GREATEST_NUMBER : L2.RelV Ov.g_GREATEST_NUMBER u_GREATEST_NUMBER)
    {t_KINDS_WITH_NAME : Addr} {o_KINDS_WITH_NAME : Obj} {is_KINDS_WITH_NAME : Array Value} {nn_KINDS_WITH_NAME : Nat}
    (z_KINDS_WITH_NAME : PySem.W.nsIn K mainGlobals "KINDS_WITH_NAME" = some (some (.ref t_KINDS_WITH_NAME)))
    (l_KINDS_WITH_NAME : K.lookup t_KINDS_WITH_NAME = some o_KINDS_WITH_NAME)
    (lc_KINDS_WITH_NAME : o_KINDS_WITH_NAME.cls = .type "tuple")
    (ld_KINDS_WITH_NAME : o_KINDS_WITH_NAME.data = .seq is_KINDS_WITH_NAME nn_KINDS_WITH_NAME)
    (lz_KINDS_WITH_NAME : is_KINDS_WITH_NAME.size ≤ sizeLine)
    (lv_KINDS_WITH_NAME : Vals [V.str "jump", V.str "swap"] is_KINDS_WITH_NAME.toList)
    {t_KINDS_WITH_NUMBER : Addr} {o_KINDS_WITH_NUMBER : Obj} {is_KINDS_WITH_NUMBER : Array Value} {nn_KINDS_WITH_NUMBER : Nat}
    (z_KINDS_WITH_NUMBER : PySem.W.nsIn K mainGlobals "KINDS_WITH_NUMBER" = some (some (.ref t_KINDS_WITH_NUMBER)))
    (l_KINDS_WITH_NUMBER : K.lookup t_KINDS_WITH_NUMBER = some o_KINDS_WITH_NUMBER)
    (lc_KINDS_WITH_NUMBER : o_KINDS_WITH_NUMBER.cls = .type "tuple")
    (ld_KINDS_WITH_NUMBER : o_KINDS_WITH_NUMBER.data = .seq is_KINDS_WITH_NUMBER nn_KINDS_WITH_NUMBER)
    (lz_KINDS_WITH_NUMBER : is_KINDS_WITH_NUMBER.size ≤ sizeLine)
    (lv_KINDS_WITH_NUMBER : Vals [V.str "answer", V.str "heal"] is_KINDS_WITH_NUMBER.toList)
    {u_LETTERS : Value}
    (z_LETTERS : PySem.W.nsIn K mainGlobals "LETTERS" = some (some u_LETTERS))
    (r_LETTERS : L2.RelV Ov.g_LETTERS u_LETTERS)
    {u_LETTERS_AND_DIGITS : Value}
    (z_LETTERS_AND_DIGITS : PySem.W.nsIn K mainGlobals "LETTERS_AND_DIGITS" = some (some u_LETTERS_AND_DIGITS))
    (r_LETTERS_AND_DIGITS : L2.RelV Ov.g_LETTERS_AND_DIGITS u_LETTERS_AND_DIGITS)
    {u_LONGEST_NAME : Value}
    (z_LONGEST_NAME : PySem.W.nsIn K mainGlobals "LONGEST_NAME" = some (some u_LONGEST_NAME))
    (r_LONGEST_NAME : L2.RelV Ov.g_LONGEST_NAME u_LONGEST_NAME)
    {c_BadKind : Addr}
    (a_BadKind : PySem.W.nsIn K mainGlobals "BadKind" = some (some (.ref c_BadKind)))
    {c_BadName : Addr}
    (a_BadName : PySem.W.nsIn K mainGlobals "BadName" = some (some (.ref c_BadName)))
    {c_BadNumber : Addr}
    (a_BadNumber : PySem.W.nsIn K mainGlobals "BadNumber" = some (some (.ref c_BadNumber)))
    {c_Book : Addr}
    (a_Book : PySem.W.nsIn K mainGlobals "Book" = some (some (.ref c_Book)))
    {c_Clash : Addr}
    (a_Clash : PySem.W.nsIn K mainGlobals "Clash" = some (some (.ref c_Clash)))
    {c_TooLarge : Addr}
    (a_TooLarge : PySem.W.nsIn K mainGlobals "TooLarge" = some (some (.ref c_TooLarge)))
    {c_UnknownStep : Addr}
    (a_UnknownStep : PySem.W.nsIn K mainGlobals "UnknownStep" = some (some (.ref c_UnknownStep)))
    (pg_Book : PySem.W.plainGet K c_Book Str.empty = true)
    (hd_Book : PySem.W.hasDictIn K c_Book = true)
    (po_Book : PySem.W.plainOver K c_Book = true)
    (sa_Book : PySem.W.findIn K (.ref c_Book) "__setattr__" = some (some (.builtin "object.__setattr__")))
    (mk_Book : PySem.W.makesIn K c_Book = true)
    (kc_Book : PySem.W.keepIn K (.ref c_Book) = true)
    (nq_Book : PySem.W.noSeq K c_Book = true)
    (rd_Book : PySem.W.readsIn K c_Book (.type "type") = true)
    (rg_Book : PySem.W.specialIn K (.ref c_Book) "__getattribute__" = some (some (.builtin "type.__getattribute__")))
    (nf_Book__sizes : PySem.W.findIn K (.ref c_Book) "_sizes" = some none)
    (nf_Book__steps : PySem.W.findIn K (.ref c_Book) "_steps" = some none)
    {u_Book_CELLS : Value}
    (cv_Book_CELLS : PySem.W.findCls K (.ref c_Book) (.type "type") "CELLS" = some (.val u_Book_CELLS))
    (cr_Book_CELLS : L2.RelV (.int 2) u_Book_CELLS)
    {u_Book_STEPS : Value}
    (cv_Book_STEPS : PySem.W.findCls K (.ref c_Book) (.type "type") "STEPS" = some (.val u_Book_STEPS))
    (cr_Book_STEPS : L2.RelV (.int 12) u_Book_STEPS)
    (opq : PySem.W.nsIn K cStatics "thirdparty.any" = some none)
    (sup : PySem.W.nsIn K mainGlobals "super" = some none)
    (top : (P.main.scope.names.lookup ("super" : Str)).isSome = false)
    {i_BadKind : Addr} {nm_BadKind qn_BadKind : Str} {N_BadKind : Addr} {bs_BadKind bm_BadKind : List Value} {sn_BadKind : List Str} {sub_BadKind : List Value} {ab_BadKind : Bool} {col_BadKind : Option Bool} {dd_BadKind : Option Addr} {k0_BadKind k1_BadKind k2_BadKind k3_BadKind k5_BadKind : Option Value}
    (x_BadKind : K.lookup c_BadKind = some (excClassObj nm_BadKind qn_BadKind c_BadKind N_BadKind bs_BadKind bm_BadKind true sn_BadKind sub_BadKind ab_BadKind col_BadKind dd_BadKind k0_BadKind k1_BadKind k2_BadKind k3_BadKind k5_BadKind "ValueError.__new__"))
    (ve_BadKind : PySem.HandSPX.refsVE bm_BadKind = true)
    (al_BadKind : PySem.W.ks_superIn K c_BadKind c_BadKind "__init__" = some (some (.builtin "ValueError.__init__")))
    (sa_BadKind : PySem.W.findIn K (.ref c_BadKind) "__setattr__" = some (some (.builtin "object.__setattr__")))
    (no_BadKind : PySem.W.findIn K (.ref c_BadKind) "kind" = some none)
    (in_BadKind : PySem.W.findIn K (.ref c_BadKind) "__init__" = some (some (.ref i_BadKind)))
    (ti_BadKind : PySem.W.typeIn K (.ref i_BadKind) = some (.type "function"))
    (kc_BadKind : PySem.W.keepIn K (.ref c_BadKind) = true)
    (ex_BadKind : PySem.W.subIn K (.ref c_BadKind) (.type "BaseException") = some true)
    (vc_BadKind : PySem.W.subIn K (.ref c_BadKind) (.type "ValueError") = some true)
    (sl_BadKind : PySem.W.mroIn K c_BadKind (.ref c_BadKind) = some true)
    (ty_BadKind : PySem.W.typeIn K (.ref c_BadKind) = some (.type "type"))
    {ocx_BadKind docx_BadKind pmx_BadKind ctx_BadKind cclx_BadKind clx_BadKind : Value} {odx_BadKind anx_BadKind cddx_BadKind cldx_BadKind : Option Addr} {cdax_BadKind ccx_BadKind : Addr} {oslx_BadKind ccsx_BadKind cslx_BadKind : Array (Option Value)} {vsx_BadKind : Array Value} {filex_BadKind : Str} {tfx_BadKind : Tok}
    (li_BadKind : K.lookup i_BadKind = some ⟨ocx_BadKind, odx_BadKind, .func (PySem.W.ksFn "__init__" "BadKind.__init__" (defArgs (inClass (topS 5) 0)) (defBody (inClass (topS 5) 0)) (defScope (inClass (topS 5) 0)) .none .none docx_BadKind pmx_BadKind anx_BadKind (.ref cdax_BadKind) ctx_BadKind ccx_BadKind), oslx_BadKind⟩)
    (ci_BadKind : PySem.W.codeIn K (.ref cdax_BadKind) "BadKind.__init__" = true)
    (cd_BadKind : K.lookup cdax_BadKind = some ⟨cclx_BadKind, cddx_BadKind, .fields vsx_BadKind, ccsx_BadKind⟩)
    (fv_BadKind : vsx_BadKind[2]? = some (.str filex_BadKind tfx_BadKind))
    (fl_BadKind : ((P.main.file : Str) == filex_BadKind) = true)
    (ce_BadKind : K.lookup ccx_BadKind = some ⟨clx_BadKind, cldx_BadKind, .cell (some (.ref c_BadKind)), cslx_BadKind⟩)
    {i_BadName : Addr} {nm_BadName qn_BadName : Str} {N_BadName : Addr} {bs_BadName bm_BadName : List Value} {sn_BadName : List Str} {sub_BadName : List Value} {ab_BadName : Bool} {col_BadName : Option Bool} {dd_BadName : Option Addr} {k0_BadName k1_BadName k2_BadName k3_BadName k5_BadName : Option Value}
    (x_BadName : K.lookup c_BadName = some (excClassObj nm_BadName qn_BadName c_BadName N_BadName bs_BadName bm_BadName true sn_BadName sub_BadName ab_BadName col_BadName dd_BadName k0_BadName k1_BadName k2_BadName k3_BadName k5_BadName "ValueError.__new__"))
    (ve_BadName : PySem.HandSPX.refsVE bm_BadName = true)
    (al_BadName : PySem.W.ks_superIn K c_BadName c_BadName "__init__" = some (some (.builtin "ValueError.__init__")))
    (sa_BadName : PySem.W.findIn K (.ref c_BadName) "__setattr__" = some (some (.builtin "object.__setattr__")))
    (no_BadName : PySem.W.findIn K (.ref c_BadName) "name" = some none)
    (in_BadName : PySem.W.findIn K (.ref c_BadName) "__init__" = some (some (.ref i_BadName)))
    (ti_BadName : PySem.W.typeIn K (.ref i_BadName) = some (.type "function"))
    (kc_BadName : PySem.W.keepIn K (.ref c_BadName) = true)
    (ex_BadName : PySem.W.subIn K (.ref c_BadName) (.type "BaseException") = some true)
    (vc_BadName : PySem.W.subIn K (.ref c_BadName) (.type "ValueError") = some true)
    (sl_BadName : PySem.W.mroIn K c_BadName (.ref c_BadName) = some true)
    (ty_BadName : PySem.W.typeIn K (.ref c_BadName) = some (.type "type"))
    {ocx_BadName docx_BadName pmx_BadName ctx_BadName cclx_BadName clx_BadName : Value} {odx_BadName anx_BadName cddx_BadName cldx_BadName : Option Addr} {cdax_BadName ccx_BadName : Addr} {oslx_BadName ccsx_BadName cslx_BadName : Array (Option Value)} {vsx_BadName : Array Value} {filex_BadName : Str} {tfx_BadName : Tok}
    (li_BadName : K.lookup i_BadName = some ⟨ocx_BadName, odx_BadName, .func (PySem.W.ksFn "__init__" "BadName.__init__" (defArgs (inClass (topS 3) 0)) (defBody (inClass (topS 3) 0)) (defScope (inClass (topS 3) 0)) .none .none docx_BadName pmx_BadName anx_BadName (.ref cdax_BadName) ctx_BadName ccx_BadName), oslx_BadName⟩)
    (ci_BadName : PySem.W.codeIn K (.ref cdax_BadName) "BadName.__init__" = true)
    (cd_BadName : K.lookup cdax_BadName = some ⟨cclx_BadName, cddx_BadName, .fields vsx_BadName, ccsx_BadName⟩)
    (fv_BadName : vsx_BadName[2]? = some (.str filex_BadName tfx_BadName))
    (fl_BadName : ((P.main.file : Str) == filex_BadName) = true)
    (ce_BadName : K.lookup ccx_BadName = some ⟨clx_BadName, cldx_BadName, .cell (some (.ref c_BadName)), cslx_BadName⟩)
    {i_BadNumber : Addr} {nm_BadNumber qn_BadNumber : Str} {N_BadNumber : Addr} {bs_BadNumber bm_BadNumber : List Value} {sn_BadNumber : List Str} {sub_BadNumber : List Value} {ab_BadNumber : Bool} {col_BadNumber : Option Bool} {dd_BadNumber : Option Addr} {k0_BadNumber k1_BadNumber k2_BadNumber k3_BadNumber k5_BadNumber : Option Value}
    (x_BadNumber : K.lookup c_BadNumber = some (excClassObj nm_BadNumber qn_BadNumber c_BadNumber N_BadNumber bs_BadNumber bm_BadNumber true sn_BadNumber sub_BadNumber ab_BadNumber col_BadNumber dd_BadNumber k0_BadNumber k1_BadNumber k2_BadNumber k3_BadNumber k5_BadNumber "ValueError.__new__"))
    (ve_BadNumber : PySem.HandSPX.refsVE bm_BadNumber = true)
    (al_BadNumber : PySem.W.ks_superIn K c_BadNumber c_BadNumber "__init__" = some (some (.builtin "ValueError.__init__")))
    (sa_BadNumber : PySem.W.findIn K (.ref c_BadNumber) "__setattr__" = some (some (.builtin "object.__setattr__")))
    (no_BadNumber : PySem.W.findIn K (.ref c_BadNumber) "number" = some none)
    (in_BadNumber : PySem.W.findIn K (.ref c_BadNumber) "__init__" = some (some (.ref i_BadNumber)))
    (ti_BadNumber : PySem.W.typeIn K (.ref i_BadNumber) = some (.type "function"))
    (kc_BadNumber : PySem.W.keepIn K (.ref c_BadNumber) = true)
    (ex_BadNumber : PySem.W.subIn K (.ref c_BadNumber) (.type "BaseException") = some true)
    (vc_BadNumber : PySem.W.subIn K (.ref c_BadNumber) (.type "ValueError") = some true)
    (sl_BadNumber : PySem.W.mroIn K c_BadNumber (.ref c_BadNumber) = some true)
    (ty_BadNumber : PySem.W.typeIn K (.ref c_BadNumber) = some (.type "type"))
    {ocx_BadNumber docx_BadNumber pmx_BadNumber ctx_BadNumber cclx_BadNumber clx_BadNumber : Value} {odx_BadNumber anx_BadNumber cddx_BadNumber cldx_BadNumber : Option Addr} {cdax_BadNumber ccx_BadNumber : Addr} {oslx_BadNumber ccsx_BadNumber cslx_BadNumber : Array (Option Value)} {vsx_BadNumber : Array Value} {filex_BadNumber : Str} {tfx_BadNumber : Tok}
    (li_BadNumber : K.lookup i_BadNumber = some ⟨ocx_BadNumber, odx_BadNumber, .func (PySem.W.ksFn "__init__" "BadNumber.__init__" (defArgs (inClass (topS 4) 0)) (defBody (inClass (topS 4) 0)) (defScope (inClass (topS 4) 0)) .none .none docx_BadNumber pmx_BadNumber anx_BadNumber (.ref cdax_BadNumber) ctx_BadNumber ccx_BadNumber), oslx_BadNumber⟩)
    (ci_BadNumber : PySem.W.codeIn K (.ref cdax_BadNumber) "BadNumber.__init__" = true)
    (cd_BadNumber : K.lookup cdax_BadNumber = some ⟨cclx_BadNumber, cddx_BadNumber, .fields vsx_BadNumber, ccsx_BadNumber⟩)
    (fv_BadNumber : vsx_BadNumber[2]? = some (.str filex_BadNumber tfx_BadNumber))
    (fl_BadNumber : ((P.main.file : Str) == filex_BadNumber) = true)
    (ce_BadNumber : K.lookup ccx_BadNumber = some ⟨clx_BadNumber, cldx_BadNumber, .cell (some (.ref c_BadNumber)), cslx_BadNumber⟩)
    {i_Clash : Addr} {nm_Clash qn_Clash : Str} {N_Clash : Addr} {bs_Clash bm_Clash : List Value} {sn_Clash : List Str} {sub_Clash : List Value} {ab_Clash : Bool} {col_Clash : Option Bool} {dd_Clash : Option Addr} {k0_Clash k1_Clash k2_Clash k3_Clash k5_Clash : Option Value}
    (x_Clash : K.lookup c_Clash = some (excClassObj nm_Clash qn_Clash c_Clash N_Clash bs_Clash bm_Clash true sn_Clash sub_Clash ab_Clash col_Clash dd_Clash k0_Clash k1_Clash k2_Clash k3_Clash k5_Clash "ValueError.__new__"))
    (ve_Clash : PySem.HandSPX.refsVE bm_Clash = true)
    (al_Clash : PySem.W.ks_superIn K c_Clash c_Clash "__init__" = some (some (.builtin "ValueError.__init__")))
    (sa_Clash : PySem.W.findIn K (.ref c_Clash) "__setattr__" = some (some (.builtin "object.__setattr__")))
    (no_Clash : PySem.W.findIn K (.ref c_Clash) "name" = some none)
    (in_Clash : PySem.W.findIn K (.ref c_Clash) "__init__" = some (some (.ref i_Clash)))
    (ti_Clash : PySem.W.typeIn K (.ref i_Clash) = some (.type "function"))
    (kc_Clash : PySem.W.keepIn K (.ref c_Clash) = true)
    (ex_Clash : PySem.W.subIn K (.ref c_Clash) (.type "BaseException") = some true)
    (vc_Clash : PySem.W.subIn K (.ref c_Clash) (.type "ValueError") = some true)
    (sl_Clash : PySem.W.mroIn K c_Clash (.ref c_Clash) = some true)
    (ty_Clash : PySem.W.typeIn K (.ref c_Clash) = some (.type "type"))
    {ocx_Clash docx_Clash pmx_Clash ctx_Clash cclx_Clash clx_Clash : Value} {odx_Clash anx_Clash cddx_Clash cldx_Clash : Option Addr} {cdax_Clash ccx_Clash : Addr} {oslx_Clash ccsx_Clash cslx_Clash : Array (Option Value)} {vsx_Clash : Array Value} {filex_Clash : Str} {tfx_Clash : Tok}
    (li_Clash : K.lookup i_Clash = some ⟨ocx_Clash, odx_Clash, .func (PySem.W.ksFn "__init__" "Clash.__init__" (defArgs (inClass (topS 8) 0)) (defBody (inClass (topS 8) 0)) (defScope (inClass (topS 8) 0)) .none .none docx_Clash pmx_Clash anx_Clash (.ref cdax_Clash) ctx_Clash ccx_Clash), oslx_Clash⟩)
    (ci_Clash : PySem.W.codeIn K (.ref cdax_Clash) "Clash.__init__" = true)
    (cd_Clash : K.lookup cdax_Clash = some ⟨cclx_Clash, cddx_Clash, .fields vsx_Clash, ccsx_Clash⟩)
    (fv_Clash : vsx_Clash[2]? = some (.str filex_Clash tfx_Clash))
    (fl_Clash : ((P.main.file : Str) == filex_Clash) = true)
    (ce_Clash : K.lookup ccx_Clash = some ⟨clx_Clash, cldx_Clash, .cell (some (.ref c_Clash)), cslx_Clash⟩)
    {i_TooLarge : Addr} {nm_TooLarge qn_TooLarge : Str} {N_TooLarge : Addr} {bs_TooLarge bm_TooLarge : List Value} {sn_TooLarge : List Str} {sub_TooLarge : List Value} {ab_TooLarge : Bool} {col_TooLarge : Option Bool} {dd_TooLarge : Option Addr} {k0_TooLarge k1_TooLarge k2_TooLarge k3_TooLarge k5_TooLarge : Option Value}
    (x_TooLarge : K.lookup c_TooLarge = some (excClassObj nm_TooLarge qn_TooLarge c_TooLarge N_TooLarge bs_TooLarge bm_TooLarge true sn_TooLarge sub_TooLarge ab_TooLarge col_TooLarge dd_TooLarge k0_TooLarge k1_TooLarge k2_TooLarge k3_TooLarge k5_TooLarge "ValueError.__new__"))
    (ve_TooLarge : PySem.HandSPX.refsVE bm_TooLarge = true)
    (al_TooLarge : PySem.W.ks_superIn K c_TooLarge c_TooLarge "__init__" = some (some (.builtin "ValueError.__init__")))
    (sa_TooLarge : PySem.W.findIn K (.ref c_TooLarge) "__setattr__" = some (some (.builtin "object.__setattr__")))
    (no_TooLarge : PySem.W.findIn K (.ref c_TooLarge) "most" = some none)
    (in_TooLarge : PySem.W.findIn K (.ref c_TooLarge) "__init__" = some (some (.ref i_TooLarge)))
    (ti_TooLarge : PySem.W.typeIn K (.ref i_TooLarge) = some (.type "function"))
    (kc_TooLarge : PySem.W.keepIn K (.ref c_TooLarge) = true)
    (ex_TooLarge : PySem.W.subIn K (.ref c_TooLarge) (.type "BaseException") = some true)
    (vc_TooLarge : PySem.W.subIn K (.ref c_TooLarge) (.type "ValueError") = some true)
    (sl_TooLarge : PySem.W.mroIn K c_TooLarge (.ref c_TooLarge) = some true)
    (ty_TooLarge : PySem.W.typeIn K (.ref c_TooLarge) = some (.type "type"))
    {ocx_TooLarge docx_TooLarge pmx_TooLarge ctx_TooLarge cclx_TooLarge clx_TooLarge : Value} {odx_TooLarge anx_TooLarge cddx_TooLarge cldx_TooLarge : Option Addr} {cdax_TooLarge ccx_TooLarge : Addr} {oslx_TooLarge ccsx_TooLarge cslx_TooLarge : Array (Option Value)} {vsx_TooLarge : Array Value} {filex_TooLarge : Str} {tfx_TooLarge : Tok}
    (li_TooLarge : K.lookup i_TooLarge = some ⟨ocx_TooLarge, odx_TooLarge, .func (PySem.W.ksFn "__init__" "TooLarge.__init__" (defArgs (inClass (topS 7) 0)) (defBody (inClass (topS 7) 0)) (defScope (inClass (topS 7) 0)) .none .none docx_TooLarge pmx_TooLarge anx_TooLarge (.ref cdax_TooLarge) ctx_TooLarge ccx_TooLarge), oslx_TooLarge⟩)
    (ci_TooLarge : PySem.W.codeIn K (.ref cdax_TooLarge) "TooLarge.__init__" = true)
    (cd_TooLarge : K.lookup cdax_TooLarge = some ⟨cclx_TooLarge, cddx_TooLarge, .fields vsx_TooLarge, ccsx_TooLarge⟩)
    (fv_TooLarge : vsx_TooLarge[2]? = some (.str filex_TooLarge tfx_TooLarge))
    (fl_TooLarge : ((P.main.file : Str) == filex_TooLarge) = true)
    (ce_TooLarge : K.lookup ccx_TooLarge = some ⟨clx_TooLarge, cldx_TooLarge, .cell (some (.ref c_TooLarge)), cslx_TooLarge⟩)
    {i_UnknownStep : Addr} {nm_UnknownStep qn_UnknownStep : Str} {N_UnknownStep : Addr} {bs_UnknownStep bm_UnknownStep : List Value} {sn_UnknownStep : List Str} {sub_UnknownStep : List Value} {ab_UnknownStep : Bool} {col_UnknownStep : Option Bool} {dd_UnknownStep : Option Addr} {k0_UnknownStep k1_UnknownStep k2_UnknownStep k3_UnknownStep k5_UnknownStep : Option Value}
    (x_UnknownStep : K.lookup c_UnknownStep = some (excClassObj nm_UnknownStep qn_UnknownStep c_UnknownStep N_UnknownStep bs_UnknownStep bm_UnknownStep true sn_UnknownStep sub_UnknownStep ab_UnknownStep col_UnknownStep dd_UnknownStep k0_UnknownStep k1_UnknownStep k2_UnknownStep k3_UnknownStep k5_UnknownStep "ValueError.__new__"))
    (ve_UnknownStep : PySem.HandSPX.refsVE bm_UnknownStep = true)
    (al_UnknownStep : PySem.W.ks_superIn K c_UnknownStep c_UnknownStep "__init__" = some (some (.builtin "ValueError.__init__")))
    (sa_UnknownStep : PySem.W.findIn K (.ref c_UnknownStep) "__setattr__" = some (some (.builtin "object.__setattr__")))
    (no_UnknownStep : PySem.W.findIn K (.ref c_UnknownStep) "step" = some none)
    (in_UnknownStep : PySem.W.findIn K (.ref c_UnknownStep) "__init__" = some (some (.ref i_UnknownStep)))
    (ti_UnknownStep : PySem.W.typeIn K (.ref i_UnknownStep) = some (.type "function"))
    (kc_UnknownStep : PySem.W.keepIn K (.ref c_UnknownStep) = true)
    (ex_UnknownStep : PySem.W.subIn K (.ref c_UnknownStep) (.type "BaseException") = some true)
    (vc_UnknownStep : PySem.W.subIn K (.ref c_UnknownStep) (.type "ValueError") = some true)
    (sl_UnknownStep : PySem.W.mroIn K c_UnknownStep (.ref c_UnknownStep) = some true)
    (ty_UnknownStep : PySem.W.typeIn K (.ref c_UnknownStep) = some (.type "type"))
    {ocx_UnknownStep docx_UnknownStep pmx_UnknownStep ctx_UnknownStep cclx_UnknownStep clx_UnknownStep : Value} {odx_UnknownStep anx_UnknownStep cddx_UnknownStep cldx_UnknownStep : Option Addr} {cdax_UnknownStep ccx_UnknownStep : Addr} {oslx_UnknownStep ccsx_UnknownStep cslx_UnknownStep : Array (Option Value)} {vsx_UnknownStep : Array Value} {filex_UnknownStep : Str} {tfx_UnknownStep : Tok}
    (li_UnknownStep : K.lookup i_UnknownStep = some ⟨ocx_UnknownStep, odx_UnknownStep, .func (PySem.W.ksFn "__init__" "UnknownStep.__init__" (defArgs (inClass (topS 6) 0)) (defBody (inClass (topS 6) 0)) (defScope (inClass (topS 6) 0)) .none .none docx_UnknownStep pmx_UnknownStep anx_UnknownStep (.ref cdax_UnknownStep) ctx_UnknownStep ccx_UnknownStep), oslx_UnknownStep⟩)
    (ci_UnknownStep : PySem.W.codeIn K (.ref cdax_UnknownStep) "UnknownStep.__init__" = true)
    (cd_UnknownStep : K.lookup cdax_UnknownStep = some ⟨cclx_UnknownStep, cddx_UnknownStep, .fields vsx_UnknownStep, ccsx_UnknownStep⟩)
    (fv_UnknownStep : vsx_UnknownStep[2]? = some (.str filex_UnknownStep tfx_UnknownStep))
    (fl_UnknownStep : ((P.main.file : Str) == filex_UnknownStep) = true)
    (ce_UnknownStep : K.lookup ccx_UnknownStep = some ⟨clx_UnknownStep, cldx_UnknownStep, .cell (some (.ref c_UnknownStep)), cslx_UnknownStep⟩)
    (sp : PySem.W.specialIn K (.builtin "object.__class__") "__get__" = some (some (.builtin "getset_descriptor.__get__")))
    (tk : PySem.W.takesIn K (.builtin "object.__class__") = some true)
    (oc_Book : PySem.W.findIn K (.ref c_Book) "__class__" = some (some (.builtin "object.__class__")))
    (om_Book : PySem.W.mroIn K c_Book (.type "object") = some true)
    (io_Book : PySem.W.kitOne K (.ref c_Book) (.ref c_Book) = some true)
    {f0 : Addr} {oc0 : Value} {od0 an0 : Option Addr} {sl0 : Array (Option Value)} {kV0 dc0 pm0 cd0 ct0 : Value}
    (a0 : PySem.W.nsIn K mainGlobals "is_name" = some (some (.ref f0)))
    (l0 : K.lookup f0 = some ⟨oc0, od0, .func (PySem.W.fnOf "is_name" "is_name" (defArgs s_is_name) (defBody s_is_name) (defScope s_is_name) .none kV0 dc0 pm0 an0 cd0 ct0), sl0⟩)
    (c0 : PySem.W.codeIn K cd0 "is_name" = true)
    (k0 : PySem.W.keepIn K (.ref f0) = true)
    {f1 : Addr} {oc1 : Value} {od1 an1 : Option Addr} {sl1 : Array (Option Value)} {kV1 dc1 pm1 cd1 ct1 : Value}
    (a1 : PySem.W.nsIn K mainGlobals "check_number" = some (some (.ref f1)))
    (l1 : K.lookup f1 = some ⟨oc1, od1, .func (PySem.W.fnOf "check_number" "check_number" (defArgs s_check_number) (defBody s_check_number) (defScope s_check_number) .none kV1 dc1 pm1 an1 cd1 ct1), sl1⟩)
    (c1 : PySem.W.codeIn K cd1 "check_number" = true)
    (k1 : PySem.W.keepIn K (.ref f1) = true)
    {f2 : Addr} {oc2 : Value} {od2 an2 : Option Addr} {sl2 : Array (Option Value)} {kV2 dc2 pm2 cd2 ct2 : Value}
    (a2 : PySem.W.nsIn K mainGlobals "halves" = some (some (.ref f2)))
    (l2 : K.lookup f2 = some ⟨oc2, od2, .func (PySem.W.fnOf "halves" "halves" (defArgs s_halves) (defBody s_halves) (defScope s_halves) .none kV2 dc2 pm2 an2 cd2 ct2), sl2⟩)
    (c2 : PySem.W.codeIn K cd2 "halves" = true)
    (k2 : PySem.W.keepIn K (.ref f2) = true)
    {f3 : Addr} {oc3 : Value} {od3 an3 : Option Addr} {sl3 : Array (Option Value)} {kV3 dc3 pm3 cd3 ct3 : Value}
    (a3 : PySem.W.nsIn K mainGlobals "at_most" = some (some (.ref f3)))
    (l3 : K.lookup f3 = some ⟨oc3, od3, .func (PySem.W.fnOf "at_most" "at_most" (defArgs s_at_most) (defBody s_at_most) (defScope s_at_most) .none kV3 dc3 pm3 an3 cd3 ct3), sl3⟩)
    (c3 : PySem.W.codeIn K cd3 "at_most" = true)
    (k3 : PySem.W.keepIn K (.ref f3) = true)
    {f4 : Addr} {oc4 : Value} {od4 an4 : Option Addr} {sl4 : Array (Option Value)} {kV4 dc4 pm4 cd4 ct4 : Value}
    (a4 : PySem.W.findIn K (.ref c_Book) "__getitem__" = some (some (.ref f4)))
    (t4 : PySem.W.isFn K (.ref f4) = true)
    (l4 : K.lookup f4 = some ⟨oc4, od4, .func (PySem.W.fnOf "__getitem__" "Book.__getitem__" (defArgs s_Book___getitem__) (defBody s_Book___getitem__) (defScope s_Book___getitem__) .none kV4 dc4 pm4 an4 cd4 ct4), sl4⟩)
    (c4 : PySem.W.codeIn K cd4 "Book.__getitem__" = true)
    (k4 : PySem.W.keepIn K (.ref f4) = true)
    {f5 : Addr} {oc5 : Value} {od5 an5 : Option Addr} {sl5 : Array (Option Value)} {kV5 dc5 pm5 cd5 ct5 : Value}
    (a5 : PySem.W.findIn K (.ref c_Book) "__init__" = some (some (.ref f5)))
    (t5 : PySem.W.isFn K (.ref f5) = true)
    (l5 : K.lookup f5 = some ⟨oc5, od5, .func (PySem.W.fnOf "__init__" "Book.__init__" (defArgs s_Book___init__) (defBody s_Book___init__) (defScope s_Book___init__) .none kV5 dc5 pm5 an5 cd5 ct5), sl5⟩)
    (c5 : PySem.W.codeIn K cd5 "Book.__init__" = true)
    (k5 : PySem.W.keepIn K (.ref f5) = true)
    {f6 : Addr} {oc6 : Value} {od6 an6 : Option Addr} {sl6 : Array (Option Value)} {kV6 dc6 pm6 cd6 ct6 : Value}
    (a6 : PySem.W.nsIn K mainGlobals "_law_pool" = some (some (.ref f6)))
    (l6 : K.lookup f6 = some ⟨oc6, od6, .func (PySem.W.fnOf "_law_pool" "_law_pool" (defArgs s__law_pool) (defBody s__law_pool) (defScope s__law_pool) .none kV6 dc6 pm6 an6 cd6 ct6), sl6⟩)
    (c6 : PySem.W.codeIn K cd6 "_law_pool" = true)
    (k6 : PySem.W.keepIn K (.ref f6) = true)
    {f7 : Addr} {oc7 : Value} {od7 an7 : Option Addr} {sl7 : Array (Option Value)} {kV7 dc7 pm7 cd7 ct7 : Value}
    (a7 : PySem.W.nsIn K mainGlobals "_law_mixed" = some (some (.ref f7)))
    (l7 : K.lookup f7 = some ⟨oc7, od7, .func (PySem.W.fnOf "_law_mixed" "_law_mixed" (defArgs s__law_mixed) (defBody s__law_mixed) (defScope s__law_mixed) .none kV7 dc7 pm7 an7 cd7 ct7), sl7⟩)
    (c7 : PySem.W.codeIn K cd7 "_law_mixed" = true)
    (k7 : PySem.W.keepIn K (.ref f7) = true)
    {f8 : Addr} {oc8 : Value} {od8 an8 : Option Addr} {sl8 : Array (Option Value)} {kV8 dc8 pm8 cd8 ct8 : Value}
    (a8 : PySem.W.nsIn K mainGlobals "_law_letters" = some (some (.ref f8)))
    (l8 : K.lookup f8 = some ⟨oc8, od8, .func (PySem.W.fnOf "_law_letters" "_law_letters" (defArgs s__law_letters) (defBody s__law_letters) (defScope s__law_letters) .none kV8 dc8 pm8 an8 cd8 ct8), sl8⟩)
    (c8 : PySem.W.codeIn K cd8 "_law_letters" = true)
    (k8 : PySem.W.keepIn K (.ref f8) = true)
    {f9 : Addr} {oc9 : Value} {od9 an9 : Option Addr} {sl9 : Array (Option Value)} {kV9 dc9 pm9 cd9 ct9 : Value}
    (a9 : PySem.W.nsIn K mainGlobals "_law_halves" = some (some (.ref f9)))
    (l9 : K.lookup f9 = some ⟨oc9, od9, .func (PySem.W.fnOf "_law_halves" "_law_halves" (defArgs s__law_halves) (defBody s__law_halves) (defScope s__law_halves) .none kV9 dc9 pm9 an9 cd9 ct9), sl9⟩)
    (c9 : PySem.W.codeIn K cd9 "_law_halves" = true)
    (k9 : PySem.W.keepIn K (.ref f9) = true)
    {f10 : Addr} {oc10 : Value} {od10 an10 : Option Addr} {sl10 : Array (Option Value)} {kV10 dc10 pm10 cd10 ct10 : Value}
    (a10 : PySem.W.nsIn K mainGlobals "_law_backward" = some (some (.ref f10)))
    (l10 : K.lookup f10 = some ⟨oc10, od10, .func (PySem.W.fnOf "_law_backward" "_law_backward" (defArgs s__law_backward) (defBody s__law_backward) (defScope s__law_backward) .none kV10 dc10 pm10 an10 cd10 ct10), sl10⟩)
    (c10 : PySem.W.codeIn K cd10 "_law_backward" = true)
    (k10 : PySem.W.keepIn K (.ref f10) = true)
    {f11 : Addr} {oc11 : Value} {od11 an11 : Option Addr} {sl11 : Array (Option Value)} {kV11 dc11 pm11 cd11 ct11 : Value}
    (a11 : PySem.W.nsIn K mainGlobals "_law_below" = some (some (.ref f11)))
    (l11 : K.lookup f11 = some ⟨oc11, od11, .func (PySem.W.fnOf "_law_below" "_law_below" (defArgs s__law_below) (defBody s__law_below) (defScope s__law_below) .none kV11 dc11 pm11 an11 cd11 ct11), sl11⟩)
    (c11 : PySem.W.codeIn K cd11 "_law_below" = true)
    (k11 : PySem.W.keepIn K (.ref f11) = true)
    {f12 : Addr} {oc12 : Value} {od12 an12 : Option Addr} {sl12 : Array (Option Value)} {kV12 dc12 pm12 cd12 ct12 : Value}
    (a12 : PySem.W.nsIn K mainGlobals "check_name" = some (some (.ref f12)))
    (l12 : K.lookup f12 = some ⟨oc12, od12, .func (PySem.W.fnOf "check_name" "check_name" (defArgs s_check_name) (defBody s_check_name) (defScope s_check_name) .none kV12 dc12 pm12 an12 cd12 ct12), sl12⟩)
    (c12 : PySem.W.codeIn K cd12 "check_name" = true)
    (k12 : PySem.W.keepIn K (.ref f12) = true)
    {f13 : Addr} {oc13 : Value} {od13 an13 : Option Addr} {sl13 : Array (Option Value)} {kV13 dc13 pm13 cd13 ct13 : Value}
    (a13 : PySem.W.nsIn K mainGlobals "all_halves" = some (some (.ref f13)))
    (l13 : K.lookup f13 = some ⟨oc13, od13, .func (PySem.W.fnOf "all_halves" "all_halves" (defArgs s_all_halves) (defBody s_all_halves) (defScope s_all_halves) .none kV13 dc13 pm13 an13 cd13 ct13), sl13⟩)
    (c13 : PySem.W.codeIn K cd13 "all_halves" = true)
    (k13 : PySem.W.keepIn K (.ref f13) = true)
    {f14 : Addr} {oc14 : Value} {od14 an14 : Option Addr} {sl14 : Array (Option Value)} {kV14 dc14 pm14 cd14 ct14 : Value}
    (a14 : PySem.W.nsIn K mainGlobals "_law_draw" = some (some (.ref f14)))
    (l14 : K.lookup f14 = some ⟨oc14, od14, .func (PySem.W.fnOf "_law_draw" "_law_draw" (defArgs s__law_draw) (defBody s__law_draw) (defScope s__law_draw) .none kV14 dc14 pm14 an14 cd14 ct14), sl14⟩)
    (c14 : PySem.W.codeIn K cd14 "_law_draw" = true)
    (k14 : PySem.W.keepIn K (.ref f14) = true)
    {f15 : Addr} {oc15 : Value} {od15 an15 : Option Addr} {sl15 : Array (Option Value)} {kV15 dc15 pm15 cd15 ct15 : Value}
    (a15 : PySem.W.nsIn K mainGlobals "_law_keep" = some (some (.ref f15)))
    (l15 : K.lookup f15 = some ⟨oc15, od15, .func (PySem.W.fnOf "_law_keep" "_law_keep" (defArgs s__law_keep) (defBody s__law_keep) (defScope s__law_keep) .none kV15 dc15 pm15 an15 cd15 ct15), sl15⟩)
    (c15 : PySem.W.codeIn K cd15 "_law_keep" = true)
    (k15 : PySem.W.keepIn K (.ref f15) = true)
    {f16 : Addr} {oc16 : Value} {od16 an16 : Option Addr} {sl16 : Array (Option Value)} {kV16 dc16 pm16 cd16 ct16 : Value}
    (a16 : PySem.W.nsIn K mainGlobals "_law_split" = some (some (.ref f16)))
    (l16 : K.lookup f16 = some ⟨oc16, od16, .func (PySem.W.fnOf "_law_split" "_law_split" (defArgs s__law_split) (defBody s__law_split) (defScope s__law_split) .none kV16 dc16 pm16 an16 cd16 ct16), sl16⟩)
    (c16 : PySem.W.codeIn K cd16 "_law_split" = true)
    (k16 : PySem.W.keepIn K (.ref f16) = true)
    {f17 : Addr} {oc17 : Value} {od17 an17 : Option Addr} {sl17 : Array (Option Value)} {kV17 dc17 pm17 cd17 ct17 : Value}
    (a17 : PySem.W.nsIn K mainGlobals "below" = some (some (.ref f17)))
    (l17 : K.lookup f17 = some ⟨oc17, od17, .func (PySem.W.fnOf "below" "below" (defArgs s_below) (defBody s_below) (defScope s_below) .none kV17 dc17 pm17 an17 cd17 ct17), sl17⟩)
    (c17 : PySem.W.codeIn K cd17 "below" = true)
    (k17 : PySem.W.keepIn K (.ref f17) = true)
    {f18 : Addr} {oc18 : Value} {od18 an18 : Option Addr} {sl18 : Array (Option Value)} {kV18 dc18 pm18 cd18 ct18 : Value}
    (a18 : PySem.W.nsIn K mainGlobals "check_kind" = some (some (.ref f18)))
    (l18 : K.lookup f18 = some ⟨oc18, od18, .func (PySem.W.fnOf "check_kind" "check_kind" (defArgs s_check_kind) (defBody s_check_kind) (defScope s_check_kind) .none kV18 dc18 pm18 an18 cd18 ct18), sl18⟩)
    (c18 : PySem.W.codeIn K cd18 "check_kind" = true)
    (k18 : PySem.W.keepIn K (.ref f18) = true)
    {f19 : Addr} {oc19 : Value} {od19 an19 : Option Addr} {sl19 : Array (Option Value)} {kV19 dc19 pm19 cd19 ct19 : Value}
    (a19 : PySem.W.findIn K (.ref c_Book) "add_cell" = some (some (.ref f19)))
    (t19 : PySem.W.isFn K (.ref f19) = true)
    (l19 : K.lookup f19 = some ⟨oc19, od19, .func (PySem.W.fnOf "add_cell" "Book.add_cell" (defArgs s_Book_add_cell) (defBody s_Book_add_cell) (defScope s_Book_add_cell) .none kV19 dc19 pm19 an19 cd19 ct19), sl19⟩)
    (c19 : PySem.W.codeIn K cd19 "Book.add_cell" = true)
    (k19 : PySem.W.keepIn K (.ref f19) = true)
    {f20 : Addr} {oc20 : Value} {od20 an20 : Option Addr} {sl20 : Array (Option Value)} {kV20 dc20 pm20 cd20 ct20 : Value}
    (a20 : PySem.W.nsIn K mainGlobals "_law_name" = some (some (.ref f20)))
    (l20 : K.lookup f20 = some ⟨oc20, od20, .func (PySem.W.fnOf "_law_name" "_law_name" (defArgs s__law_name) (defBody s__law_name) (defScope s__law_name) .none kV20 dc20 pm20 an20 cd20 ct20), sl20⟩)
    (c20 : PySem.W.codeIn K cd20 "_law_name" = true)
    (k20 : PySem.W.keepIn K (.ref f20) = true)
    {f21 : Addr} {oc21 : Value} {od21 an21 : Option Addr} {sl21 : Array (Option Value)} {kV21 dc21 pm21 cd21 ct21 : Value}
    (a21 : PySem.W.nsIn K mainGlobals "_law_number" = some (some (.ref f21)))
    (l21 : K.lookup f21 = some ⟨oc21, od21, .func (PySem.W.fnOf "_law_number" "_law_number" (defArgs s__law_number) (defBody s__law_number) (defScope s__law_number) .none kV21 dc21 pm21 an21 cd21 ct21), sl21⟩)
    (c21 : PySem.W.codeIn K cd21 "_law_number" = true)
    (k21 : PySem.W.keepIn K (.ref f21) = true)
    {f22 : Addr} {oc22 : Value} {od22 an22 : Option Addr} {sl22 : Array (Option Value)} {kV22 dc22 pm22 cd22 ct22 : Value}
    (a22 : PySem.W.nsIn K mainGlobals "sifted" = some (some (.ref f22)))
    (l22 : K.lookup f22 = some ⟨oc22, od22, .func (PySem.W.fnOf "sifted" "sifted" (defArgs s_sifted) (defBody s_sifted) (defScope s_sifted) .none kV22 dc22 pm22 an22 cd22 ct22), sl22⟩)
    (c22 : PySem.W.codeIn K cd22 "sifted" = true)
    (k22 : PySem.W.keepIn K (.ref f22) = true)
    {f23 : Addr} {oc23 : Value} {od23 an23 : Option Addr} {sl23 : Array (Option Value)} {kV23 dc23 pm23 cd23 ct23 : Value}
    (a23 : PySem.W.nsIn K mainGlobals "with_step" = some (some (.ref f23)))
    (l23 : K.lookup f23 = some ⟨oc23, od23, .func (PySem.W.fnOf "with_step" "with_step" (defArgs s_with_step) (defBody s_with_step) (defScope s_with_step) .none kV23 dc23 pm23 an23 cd23 ct23), sl23⟩)
    (c23 : PySem.W.codeIn K cd23 "with_step" = true)
    (k23 : PySem.W.keepIn K (.ref f23) = true)
    {f24 : Addr} {oc24 : Value} {od24 an24 : Option Addr} {sl24 : Array (Option Value)} {kV24 dc24 pm24 cd24 ct24 : Value}
    (a24 : PySem.W.nsIn K mainGlobals "_law_fresh" = some (some (.ref f24)))
    (l24 : K.lookup f24 = some ⟨oc24, od24, .func (PySem.W.fnOf "_law_fresh" "_law_fresh" (defArgs s__law_fresh) (defBody s__law_fresh) (defScope s__law_fresh) .none kV24 dc24 pm24 an24 cd24 ct24), sl24⟩)
    (c24 : PySem.W.codeIn K cd24 "_law_fresh" = true)
    (k24 : PySem.W.keepIn K (.ref f24) = true)
    {f25 : Addr} {oc25 : Value} {od25 an25 : Option Addr} {sl25 : Array (Option Value)} {kV25 dc25 pm25 cd25 ct25 : Value}
    (a25 : PySem.W.nsIn K mainGlobals "_law_kind" = some (some (.ref f25)))
    (l25 : K.lookup f25 = some ⟨oc25, od25, .func (PySem.W.fnOf "_law_kind" "_law_kind" (defArgs s__law_kind) (defBody s__law_kind) (defScope s__law_kind) .none kV25 dc25 pm25 an25 cd25 ct25), sl25⟩)
    (c25 : PySem.W.codeIn K cd25 "_law_kind" = true)
    (k25 : PySem.W.keepIn K (.ref f25) = true)
    {f26 : Addr} {oc26 : Value} {od26 an26 : Option Addr} {sl26 : Array (Option Value)} {kV26 dc26 pm26 cd26 ct26 : Value}
    (a26 : PySem.W.nsIn K mainGlobals "_law_argument" = some (some (.ref f26)))
    (l26 : K.lookup f26 = some ⟨oc26, od26, .func (PySem.W.fnOf "_law_argument" "_law_argument" (defArgs s__law_argument) (defBody s__law_argument) (defScope s__law_argument) .none kV26 dc26 pm26 an26 cd26 ct26), sl26⟩)
    (c26 : PySem.W.codeIn K cd26 "_law_argument" = true)
    (k26 : PySem.W.keepIn K (.ref f26) = true)
    {f27 : Addr} {oc27 : Value} {od27 an27 : Option Addr} {sl27 : Array (Option Value)} {kV27 dc27 pm27 cd27 ct27 : Value}
    (a27 : PySem.W.nsIn K mainGlobals "live_halves" = some (some (.ref f27)))
    (l27 : K.lookup f27 = some ⟨oc27, od27, .func (PySem.W.fnOf "live_halves" "live_halves" (defArgs s_live_halves) (defBody s_live_halves) (defScope s_live_halves) .none kV27 dc27 pm27 an27 cd27 ct27), sl27⟩)
    (c27 : PySem.W.codeIn K cd27 "live_halves" = true)
    (k27 : PySem.W.keepIn K (.ref f27) = true)
    {f28 : Addr} {oc28 : Value} {od28 an28 : Option Addr} {sl28 : Array (Option Value)} {kV28 dc28 pm28 cd28 ct28 : Value}
    (a28 : PySem.W.findIn K (.ref c_Book) "__setitem__" = some (some (.ref f28)))
    (t28 : PySem.W.isFn K (.ref f28) = true)
    (l28 : K.lookup f28 = some ⟨oc28, od28, .func (PySem.W.fnOf "__setitem__" "Book.__setitem__" (defArgs s_Book___setitem__) (defBody s_Book___setitem__) (defScope s_Book___setitem__) .none kV28 dc28 pm28 an28 cd28 ct28), sl28⟩)
    (c28 : PySem.W.codeIn K cd28 "Book.__setitem__" = true)
    (k28 : PySem.W.keepIn K (.ref f28) = true)
    {f29 : Addr} {oc29 : Value} {od29 an29 : Option Addr} {sl29 : Array (Option Value)} {kV29 dc29 pm29 cd29 ct29 : Value}
    (a29 : PySem.W.nsIn K mainGlobals "_law_lore" = some (some (.ref f29)))
    (l29 : K.lookup f29 = some ⟨oc29, od29, .func (PySem.W.fnOf "_law_lore" "_law_lore" (defArgs s__law_lore) (defBody s__law_lore) (defScope s__law_lore) .none kV29 dc29 pm29 an29 cd29 ct29), sl29⟩)
    (c29 : PySem.W.codeIn K cd29 "_law_lore" = true)
    (k29 : PySem.W.keepIn K (.ref f29) = true)
    {f30 : Addr} {oc30 : Value} {od30 an30 : Option Addr} {sl30 : Array (Option Value)} {kV30 dc30 pm30 cd30 ct30 : Value}
    (a30 : PySem.W.nsIn K mainGlobals "_law_book" = some (some (.ref f30)))
    (l30 : K.lookup f30 = some ⟨oc30, od30, .func (PySem.W.fnOf "_law_book" "_law_book" (defArgs s__law_book) (defBody s__law_book) (defScope s__law_book) .none kV30 dc30 pm30 an30 cd30 ct30), sl30⟩)
    (c30 : PySem.W.codeIn K cd30 "_law_book" = true)
    (k30 : PySem.W.keepIn K (.ref f30) = true)
    {f31 : Addr} {oc31 : Value} {od31 an31 : Option Addr} {sl31 : Array (Option Value)} {kV31 dc31 pm31 cd31 ct31 : Value}
    (a31 : PySem.W.nsIn K mainGlobals "_law_normal" = some (some (.ref f31)))
    (l31 : K.lookup f31 = some ⟨oc31, od31, .func (PySem.W.fnOf "_law_normal" "_law_normal" (defArgs s__law_normal) (defBody s__law_normal) (defScope s__law_normal) .none kV31 dc31 pm31 an31 cd31 ct31), sl31⟩)
    (c31 : PySem.W.codeIn K cd31 "_law_normal" = true)
    (k31 : PySem.W.keepIn K (.ref f31) = true)
    {f32 : Addr} {oc32 : Value} {od32 an32 : Option Addr} {sl32 : Array (Option Value)} {kV32 dc32 pm32 cd32 ct32 : Value}
    (a32 : PySem.W.nsIn K mainGlobals "_law_action" = some (some (.ref f32)))
    (l32 : K.lookup f32 = some ⟨oc32, od32, .func (PySem.W.fnOf "_law_action" "_law_action" (defArgs s__law_action) (defBody s__law_action) (defScope s__law_action) .none kV32 dc32 pm32 an32 cd32 ct32), sl32⟩)
    (c32 : PySem.W.codeIn K cd32 "_law_action" = true)
    (k32 : PySem.W.keepIn K (.ref f32) = true)
    {f33 : Addr} {oc33 : Value} {od33 an33 : Option Addr} {sl33 : Array (Option Value)} {kV33 dc33 pm33 cd33 ct33 : Value}
    (a33 : PySem.W.nsIn K mainGlobals "_law_rich" = some (some (.ref f33)))
    (l33 : K.lookup f33 = some ⟨oc33, od33, .func (PySem.W.fnOf "_law_rich" "_law_rich" (defArgs s__law_rich) (defBody s__law_rich) (defScope s__law_rich) .none kV33 dc33 pm33 an33 cd33 ct33), sl33⟩)
    (c33 : PySem.W.codeIn K cd33 "_law_rich" = true)
    (k33 : PySem.W.keepIn K (.ref f33) = true)
    {f34 : Addr} {oc34 : Value} {od34 an34 : Option Addr} {sl34 : Array (Option Value)} {kV34 dc34 pm34 cd34 ct34 : Value}
    (a34 : PySem.W.nsIn K mainGlobals "_law_same" = some (some (.ref f34)))
    (l34 : K.lookup f34 = some ⟨oc34, od34, .func (PySem.W.fnOf "_law_same" "_law_same" (defArgs s__law_same) (defBody s__law_same) (defScope s__law_same) .none kV34 dc34 pm34 an34 cd34 ct34), sl34⟩)
    (c34 : PySem.W.codeIn K cd34 "_law_same" = true)
    (k34 : PySem.W.keepIn K (.ref f34) = true)
    {f35 : Addr} {oc35 : Value} {od35 an35 : Option Addr} {sl35 : Array (Option Value)} {kV35 dc35 pm35 cd35 ct35 : Value}
    (a35 : PySem.W.nsIn K mainGlobals "normal" = some (some (.ref f35)))
    (l35 : K.lookup f35 = some ⟨oc35, od35, .func (PySem.W.fnOf "normal" "normal" (defArgs s_normal) (defBody s_normal) (defScope s_normal) .none kV35 dc35 pm35 an35 cd35 ct35), sl35⟩)
    (c35 : PySem.W.codeIn K cd35 "normal" = true)
    (k35 : PySem.W.keepIn K (.ref f35) = true)
    {f36 : Addr} {oc36 : Value} {od36 an36 : Option Addr} {sl36 : Array (Option Value)} {kV36 dc36 pm36 cd36 ct36 : Value}
    (a36 : PySem.W.nsIn K mainGlobals "live" = some (some (.ref f36)))
    (l36 : K.lookup f36 = some ⟨oc36, od36, .func (PySem.W.fnOf "live" "live" (defArgs s_live) (defBody s_live) (defScope s_live) .none kV36 dc36 pm36 an36 cd36 ct36), sl36⟩)
    (c36 : PySem.W.codeIn K cd36 "live" = true)
    (k36 : PySem.W.keepIn K (.ref f36) = true)
    {f37 : Addr} {oc37 : Value} {od37 an37 : Option Addr} {sl37 : Array (Option Value)} {kV37 dc37 pm37 cd37 ct37 : Value}
    (a37 : PySem.W.nsIn K mainGlobals "law" = some (some (.ref f37)))
    (l37 : K.lookup f37 = some ⟨oc37, od37, .func (PySem.W.fnOf "law" "law" (defArgs s_law) (defBody s_law) (defScope s_law) .none kV37 dc37 pm37 an37 cd37 ct37), sl37⟩)
    (c37 : PySem.W.codeIn K cd37 "law" = true)
    (k37 : PySem.W.keepIn K (.ref f37) = true)
    : ∃ fd : FuncData, (∀ (s : Shared) (u : Value), BindsTo s fd ⟨[u], []⟩ [("_law_script", u)]) ∧ ∀ base : Heap, K.In base → base.Ns mainGlobals mg → FnOk P w K mg base CX0 15 fa fd ["_law_script"] (spLaw K) := by
  have T : Txt P K mg (⟨c_BadKind, c_BadName, c_BadNumber, c_Book, c_Clash, c_TooLarge, c_UnknownStep, i_BadKind, i_BadName, i_BadNumber, i_Clash, i_TooLarge, i_UnknownStep, t_BOTH, t_CALMING, t_CELL_SIZES, t_DONE, t_KINDS_WITH_NAME, t_KINDS_WITH_NUMBER⟩ : Ad) := ⟨PySem.W.mg_none_of X G n_all, PySem.W.mg_none_of X G n_bool, PySem.W.mg_none_of X G n_int, PySem.W.mg_none_of X G n_isinstance, PySem.W.mg_none_of X G n_len, PySem.W.mg_none_of X G n_list, PySem.W.mg_none_of X G n_range, PySem.W.mg_none_of X G n_str, PySem.W.mg_none_of X G n_tuple, ⟨.ref t_BOTH, PySem.W.mg_of X G z_BOTH, rfl⟩, ⟨.ref t_CALMING, PySem.W.mg_of X G z_CALMING, rfl⟩, ⟨.ref t_CELL_SIZES, PySem.W.mg_of X G z_CELL_SIZES, rfl⟩, ⟨.ref t_DONE, PySem.W.mg_of X G z_DONE, rfl⟩, ⟨_, PySem.W.mg_of X G z_GREATEST_NUMBER, r_GREATEST_NUMBER⟩, ⟨.ref t_KINDS_WITH_NAME, PySem.W.mg_of X G z_KINDS_WITH_NAME, rfl⟩, ⟨.ref t_KINDS_WITH_NUMBER, PySem.W.mg_of X G z_KINDS_WITH_NUMBER, rfl⟩, ⟨_, PySem.W.mg_of X G z_LETTERS, r_LETTERS⟩, ⟨_, PySem.W.mg_of X G z_LETTERS_AND_DIGITS, r_LETTERS_AND_DIGITS⟩, ⟨_, PySem.W.mg_of X G z_LONGEST_NAME, r_LONGEST_NAME⟩, PySem.W.mg_of X G a_BadKind, PySem.W.mg_of X G a_BadName, PySem.W.mg_of X G a_BadNumber, PySem.W.mg_of X G a_Book, PySem.W.mg_of X G a_Clash, PySem.W.mg_of X G a_TooLarge, PySem.W.mg_of X G a_UnknownStep, { gC := PySem.W.mg_of X G a_BadKind, cls := ⟨_, _, _, _, _, _, _, _, _, _, _, _, _, _, _, x_BadKind, ve_BadKind⟩, alo := al_BadKind, sa := sa_BadKind, noN := no_BadKind, iC := in_BadKind, tC := ti_BadKind, kC := kc_BadKind, exC := ex_BadKind, veC := vc_BadKind, slf := sl_BadKind, tyC := ty_BadKind, opq := opq, sup := PySem.W.mg_none_of X G sup, top := top, fun_ := ⟨_, _, _, _, _, _, _, _, _, _, _, _, _, _, _, _, _, _, _, _, _, _, _, _, _, _, _, _, _, _, _, _, _, _, _, _, li_BadKind, ci_BadKind, rfl, rfl, rfl, fun _ _ => rfl, ⟨_, fun _ => rfl⟩, fun _ => rfl, fun _ => rfl, cd_BadKind, fv_BadKind, fl_BadKind, ce_BadKind⟩ }, { gC := PySem.W.mg_of X G a_BadName, cls := ⟨_, _, _, _, _, _, _, _, _, _, _, _, _, _, _, x_BadName, ve_BadName⟩, alo := al_BadName, sa := sa_BadName, noN := no_BadName, iC := in_BadName, tC := ti_BadName, kC := kc_BadName, exC := ex_BadName, veC := vc_BadName, slf := sl_BadName, tyC := ty_BadName, opq := opq, sup := PySem.W.mg_none_of X G sup, top := top, fun_ := ⟨_, _, _, _, _, _, _, _, _, _, _, _, _, _, _, _, _, _, _, _, _, _, _, _, _, _, _, _, _, _, _, _, _, _, _, _, li_BadName, ci_BadName, rfl, rfl, rfl, fun _ _ => rfl, ⟨_, fun _ => rfl⟩, fun _ => rfl, fun _ => rfl, cd_BadName, fv_BadName, fl_BadName, ce_BadName⟩ }, { gC := PySem.W.mg_of X G a_BadNumber, cls := ⟨_, _, _, _, _, _, _, _, _, _, _, _, _, _, _, x_BadNumber, ve_BadNumber⟩, alo := al_BadNumber, sa := sa_BadNumber, noN := no_BadNumber, iC := in_BadNumber, tC := ti_BadNumber, kC := kc_BadNumber, exC := ex_BadNumber, veC := vc_BadNumber, slf := sl_BadNumber, tyC := ty_BadNumber, opq := opq, sup := PySem.W.mg_none_of X G sup, top := top, fun_ := ⟨_, _, _, _, _, _, _, _, _, _, _, _, _, _, _, _, _, _, _, _, _, _, _, _, _, _, _, _, _, _, _, _, _, _, _, _, li_BadNumber, ci_BadNumber, rfl, rfl, rfl, fun _ _ => rfl, ⟨_, fun _ => rfl⟩, fun _ => rfl, fun _ => rfl, cd_BadNumber, fv_BadNumber, fl_BadNumber, ce_BadNumber⟩ }, { gC := PySem.W.mg_of X G a_Clash, cls := ⟨_, _, _, _, _, _, _, _, _, _, _, _, _, _, _, x_Clash, ve_Clash⟩, alo := al_Clash, sa := sa_Clash, noN := no_Clash, iC := in_Clash, tC := ti_Clash, kC := kc_Clash, exC := ex_Clash, veC := vc_Clash, slf := sl_Clash, tyC := ty_Clash, opq := opq, sup := PySem.W.mg_none_of X G sup, top := top, fun_ := ⟨_, _, _, _, _, _, _, _, _, _, _, _, _, _, _, _, _, _, _, _, _, _, _, _, _, _, _, _, _, _, _, _, _, _, _, _, li_Clash, ci_Clash, rfl, rfl, rfl, fun _ _ => rfl, ⟨_, fun _ => rfl⟩, fun _ => rfl, fun _ => rfl, cd_Clash, fv_Clash, fl_Clash, ce_Clash⟩ }, { gC := PySem.W.mg_of X G a_TooLarge, cls := ⟨_, _, _, _, _, _, _, _, _, _, _, _, _, _, _, x_TooLarge, ve_TooLarge⟩, alo := al_TooLarge, sa := sa_TooLarge, noN := no_TooLarge, iC := in_TooLarge, tC := ti_TooLarge, kC := kc_TooLarge, exC := ex_TooLarge, veC := vc_TooLarge, slf := sl_TooLarge, tyC := ty_TooLarge, opq := opq, sup := PySem.W.mg_none_of X G sup, top := top, fun_ := ⟨_, _, _, _, _, _, _, _, _, _, _, _, _, _, _, _, _, _, _, _, _, _, _, _, _, _, _, _, _, _, _, _, _, _, _, _, li_TooLarge, ci_TooLarge, rfl, rfl, rfl, fun _ _ => rfl, ⟨_, fun _ => rfl⟩, fun _ => rfl, fun _ => rfl, cd_TooLarge, fv_TooLarge, fl_TooLarge, ce_TooLarge⟩ }, { gC := PySem.W.mg_of X G a_UnknownStep, cls := ⟨_, _, _, _, _, _, _, _, _, _, _, _, _, _, _, x_UnknownStep, ve_UnknownStep⟩, alo := al_UnknownStep, sa := sa_UnknownStep, noN := no_UnknownStep, iC := in_UnknownStep, tC := ti_UnknownStep, kC := kc_UnknownStep, exC := ex_UnknownStep, veC := vc_UnknownStep, slf := sl_UnknownStep, tyC := ty_UnknownStep, opq := opq, sup := PySem.W.mg_none_of X G sup, top := top, fun_ := ⟨_, _, _, _, _, _, _, _, _, _, _, _, _, _, _, _, _, _, _, _, _, _, _, _, _, _, _, _, _, _, _, _, _, _, _, _, li_UnknownStep, ci_UnknownStep, rfl, rfl, rfl, fun _ _ => rfl, ⟨_, fun _ => rfl⟩, fun _ => rfl, fun _ => rfl, cd_UnknownStep, fv_UnknownStep, fl_UnknownStep, ce_UnknownStep⟩ }, ⟨pg_Book, hd_Book, po_Book, sa_Book⟩, ⟨mk_Book, kc_Book, PySem.W.mg_of X G a_Book⟩, nq_Book, ⟨rd_Book, rg_Book⟩, nf_Book__sizes, nf_Book__steps, ⟨_, cv_Book_CELLS, cr_Book_CELLS⟩, ⟨_, cv_Book_STEPS, cr_Book_STEPS⟩⟩
  have TX : Caught K (⟨c_BadKind, c_BadName, c_BadNumber, c_Book, c_Clash, c_TooLarge, c_UnknownStep, i_BadKind, i_BadName, i_BadNumber, i_Clash, i_TooLarge, i_UnknownStep, t_BOTH, t_CALMING, t_CELL_SIZES, t_DONE, t_KINDS_WITH_NAME, t_KINDS_WITH_NUMBER⟩ : Ad) := ⟨⟨⟨pg_Book, hd_Book, po_Book, sa_Book⟩, oc_Book, sp, tk, om_Book⟩, io_Book, fun _ => Or.inr ⟨_, _, _, l_BOTH, lc_BOTH, ld_BOTH, lz_BOTH, lv_BOTH⟩, fun _ => Or.inr ⟨_, _, _, l_CALMING, lc_CALMING, ld_CALMING, lz_CALMING, lv_CALMING⟩, fun _ => Or.inr ⟨_, _, _, l_CELL_SIZES, lc_CELL_SIZES, ld_CELL_SIZES, lz_CELL_SIZES, lv_CELL_SIZES⟩, fun _ => Or.inr ⟨_, _, _, l_DONE, lc_DONE, ld_DONE, lz_DONE, lv_DONE⟩, fun _ => Or.inr ⟨_, _, _, l_KINDS_WITH_NAME, lc_KINDS_WITH_NAME, ld_KINDS_WITH_NAME, lz_KINDS_WITH_NAME, lv_KINDS_WITH_NAME⟩, fun _ => Or.inr ⟨_, _, _, l_KINDS_WITH_NUMBER, lc_KINDS_WITH_NUMBER, ld_KINDS_WITH_NUMBER, lz_KINDS_WITH_NUMBER, lv_KINDS_WITH_NUMBER⟩⟩
  have h_is_name : Has K mg "is_name" s_is_name ["text"] := has_mk X G a0 l0 c0 k0 fun _ _ _ _ _ _ us hl => match us, hl with | [_], _ => rfl
  have h_check_number : Has K mg "check_number" s_check_number ["number"] := has_mk X G a1 l1 c1 k1 fun _ _ _ _ _ _ us hl => match us, hl with | [_], _ => rfl
  have h_halves : Has K mg "halves" s_halves ["action"] := has_mk X G a2 l2 c2 k2 fun _ _ _ _ _ _ us hl => match us, hl with | [_], _ => rfl
  have h_at_most : Has K mg "at_most" s_at_most ["entries", "most"] := has_mk X G a3 l3 c3 k3 fun _ _ _ _ _ _ us hl => match us, hl with | [_, _], _ => rfl
  have h_Book___getitem__ : MHas K c_Book "__getitem__" "Book.__getitem__" s_Book___getitem__ ["self", "name"] := mhas_mk a4 t4 l4 c4 k4 fun _ _ _ _ _ _ us hl => match us, hl with | [_, _], _ => rfl
  have h_Book___init__ : MHas K c_Book "__init__" "Book.__init__" s_Book___init__ ["self"] := mhas_mk a5 t5 l5 c5 k5 fun _ _ _ _ _ _ us hl => match us, hl with | [_], _ => rfl
  have h__law_pool : Has K mg "_law_pool" s__law_pool ["_law_script"] := has_mk X G a6 l6 c6 k6 fun _ _ _ _ _ _ us hl => match us, hl with | [_], _ => rfl
  have h__law_mixed : Has K mg "_law_mixed" s__law_mixed ["_law_cell", "_law_turn", "_law_limit"] := has_mk X G a7 l7 c7 k7 fun _ _ _ _ _ _ us hl => match us, hl with | [_, _, _], _ => rfl
  have h__law_letters : Has K mg "_law_letters" s__law_letters [] := has_mk X G a8 l8 c8 k8 fun _ _ _ _ _ _ us hl => match us, hl with | [], _ => rfl
  have h__law_halves : Has K mg "_law_halves" s__law_halves ["_law_action_here"] := has_mk X G a9 l9 c9 k9 fun _ _ _ _ _ _ us hl => match us, hl with | [_], _ => rfl
  have h__law_backward : Has K mg "_law_backward" s__law_backward ["_law_rows"] := has_mk X G a10 l10 c10 k10 fun _ _ _ _ _ _ us hl => match us, hl with | [_], _ => rfl
  have h__law_below : Has K mg "_law_below" s__law_below ["_law_half", "_law_states", "_law_kinds"] := has_mk X G a11 l11 c11 k11 fun _ _ _ _ _ _ us hl => match us, hl with | [_, _, _], _ => rfl
  have h_check_name : Has K mg "check_name" s_check_name ["name"] := has_mk X G a12 l12 c12 k12 fun _ _ _ _ _ _ us hl => match us, hl with | [_], _ => rfl
  have h_all_halves : Has K mg "all_halves" s_all_halves ["word"] := has_mk X G a13 l13 c13 k13 fun _ _ _ _ _ _ us hl => match us, hl with | [_], _ => rfl
  have h__law_draw : Has K mg "_law_draw" s__law_draw ["_law_pool_here", "_law_limit"] := has_mk X G a14 l14 c14 k14 fun _ _ _ _ _ _ us hl => match us, hl with | [_, _], _ => rfl
  have h__law_keep : Has K mg "_law_keep" s__law_keep ["_law_word", "_law_states", "_law_kinds"] := has_mk X G a15 l15 c15 k15 fun _ _ _ _ _ _ us hl => match us, hl with | [_, _, _], _ => rfl
  have h__law_split : Has K mg "_law_split" s__law_split ["_law_word"] := has_mk X G a16 l16 c16 k16 fun _ _ _ _ _ _ us hl => match us, hl with | [_], _ => rfl
  have h_below : Has K mg "below" s_below ["half", "states", "book"] := has_mk X G a17 l17 c17 k17 fun _ _ _ _ _ _ us hl => match us, hl with | [_, _, _], _ => rfl
  have h_check_kind : Has K mg "check_kind" s_check_kind ["kind"] := has_mk X G a18 l18 c18 k18 fun _ _ _ _ _ _ us hl => match us, hl with | [_], _ => rfl
  have h_Book_add_cell : MHas K c_Book "add_cell" "Book.add_cell" s_Book_add_cell ["self", "name", "size"] := mhas_mk a19 t19 l19 c19 k19 fun _ _ _ _ _ _ us hl => match us, hl with | [_, _, _], _ => rfl
  have h__law_name : Has K mg "_law_name" s__law_name ["_law_pool_here"] := has_mk X G a20 l20 c20 k20 fun _ _ _ _ _ _ us hl => match us, hl with | [_], _ => rfl
  have h__law_number : Has K mg "_law_number" s__law_number ["_law_pool_here"] := has_mk X G a21 l21 c21 k21 fun _ _ _ _ _ _ us hl => match us, hl with | [_], _ => rfl
  have h_sifted : Has K mg "sifted" s_sifted ["word", "states", "book"] := has_mk X G a22 l22 c22 k22 fun _ _ _ _ _ _ us hl => match us, hl with | [_, _, _], _ => rfl
  have h_with_step : Has K mg "with_step" s_with_step ["steps", "name", "kind"] := has_mk X G a23 l23 c23 k23 fun _ _ _ _ _ _ us hl => match us, hl with | [_, _, _], _ => rfl
  have h__law_fresh : Has K mg "_law_fresh" s__law_fresh ["_law_pool_here", "_law_used"] := has_mk X G a24 l24 c24 k24 fun _ _ _ _ _ _ us hl => match us, hl with | [_, _], _ => rfl
  have h__law_kind : Has K mg "_law_kind" s__law_kind ["_law_pool_here"] := has_mk X G a25 l25 c25 k25 fun _ _ _ _ _ _ us hl => match us, hl with | [_], _ => rfl
  have h__law_argument : Has K mg "_law_argument" s__law_argument ["_law_pool_here", "_law_lore_here", "_law_late"] := has_mk X G a26 l26 c26 k26 fun _ _ _ _ _ _ us hl => match us, hl with | [_, _, _], _ => rfl
  have h_live_halves : Has K mg "live_halves" s_live_halves ["word", "states", "book"] := has_mk X G a27 l27 c27 k27 fun _ _ _ _ _ _ us hl => match us, hl with | [_, _, _], _ => rfl
  have h_Book___setitem__ : MHas K c_Book "__setitem__" "Book.__setitem__" s_Book___setitem__ ["self", "name", "kind"] := mhas_mk a28 t28 l28 c28 k28 fun _ _ _ _ _ _ us hl => match us, hl with | [_, _, _], _ => rfl
  have h__law_lore : Has K mg "_law_lore" s__law_lore ["_law_pool_here", "_law_steps", "_law_cells"] := has_mk X G a29 l29 c29 k29 fun _ _ _ _ _ _ us hl => match us, hl with | [_, _, _], _ => rfl
  have h__law_book : Has K mg "_law_book" s__law_book ["_law_lore_here"] := has_mk X G a30 l30 c30 k30 fun _ _ _ _ _ _ us hl => match us, hl with | [_], _ => rfl
  have h__law_normal : Has K mg "_law_normal" s__law_normal ["_law_word", "_law_kinds"] := has_mk X G a31 l31 c31 k31 fun _ _ _ _ _ _ us hl => match us, hl with | [_, _], _ => rfl
  have h__law_action : Has K mg "_law_action" s__law_action ["_law_pool_here", "_law_lore_here", "_law_depth"] := has_mk X G a32 l32 c32 k32 fun _ _ _ _ _ _ us hl => match us, hl with | [_, _, _], _ => rfl
  have h__law_rich : Has K mg "_law_rich" s__law_rich ["_law_pool_here", "_law_lore_here"] := has_mk X G a33 l33 c33 k33 fun _ _ _ _ _ _ us hl => match us, hl with | [_, _], _ => rfl
  have h__law_same : Has K mg "_law_same" s__law_same ["_law_actual", "_law_expected"] := has_mk X G a34 l34 c34 k34 fun _ _ _ _ _ _ us hl => match us, hl with | [_, _], _ => rfl
  have h_normal : Has K mg "normal" s_normal ["word", "book"] := has_mk X G a35 l35 c35 k35 fun _ _ _ _ _ _ us hl => match us, hl with | [_, _], _ => rfl
  have h_live : Has K mg "live" s_live ["word", "states", "book"] := has_mk X G a36 l36 c36 k36 fun _ _ _ _ _ _ us hl => match us, hl with | [_, _, _], _ => rfl
  have h_law : Has K mg "law" s_law ["_law_script"] := has_mk X G a37 l37 c37 k37 fun _ _ _ _ _ _ us hl => match us, hl with | [_], _ => rfl
  exact all_law hfa T TX h_is_name h_check_number h_halves h_at_most h_Book___getitem__ h_Book___init__ h__law_pool h__law_mixed h__law_letters h__law_halves h__law_backward h__law_below h_check_name h_all_halves h__law_draw h__law_keep h__law_split h_below h_check_kind h_Book_add_cell h__law_name h__law_number h_sifted h_with_step h__law_fresh h__law_kind h__law_argument h_live_halves h_Book___setitem__ h__law_lore h__law_book h__law_normal h__law_action h__law_rich h__law_same h_normal h_live h_law
end Ov
open PySem PySem.W PyProof.Rows
set_option maxRecDepth 100000 in
set_option maxHeartbeats 0 in
theorem PySem.Challenge.cw_exitdeeds_k31_live_words_holds : PySem.Challenge.rw_exitdeeds_k31_live_words.Holds := by
  w_on; o_law; k_head; (case hw => w_witness2)
  k_fill
  refine L2.walk_ofK (l := PySem.Challenge.rw_exitdeeds_k31_live_words) (n := 63) (k := 15) (x := "_law_script") (CX := L2.CX0) (sp := Ov.spLaw) rfl (by decide) rfl ⟨rfl, by decide, by decide⟩ (fun w h Y => PySem.W.kIn_of Y) ?F Ov.law_start fun _ _ _ _ z => z
  case F =>
    intro w mg fa h KX G hmg
    refine' Ov.all_mk KX G hmg ?n_all ?n_bool ?n_int ?n_isinstance ?n_len ?n_list ?n_range ?n_str ?n_tuple ?z_BOTH ?l_BOTH ?lc_BOTH ?ld_BOTH ?lz_BOTH ?lv_BOTH ?z_CALMING ?l_CALMING ?lc_CALMING ?ld_CALMING ?lz_CALMING ?lv_CALMING ?z_CELL_SIZES ?l_CELL_SIZES ?lc_CELL_SIZES ?ld_CELL_SIZES ?lz_CELL_SIZES ?lv_CELL_SIZES ?z_DONE ?l_DONE ?lc_DONE ?ld_DONE ?lz_DONE ?lv_DONE ?z_GREATEST_NUMBER ?r_GREATEST_NUMBER ?z_KINDS_WITH_NAME ?l_KINDS_WITH_NAME ?lc_KINDS_WITH_NAME ?ld_KINDS_WITH_NAME ?lz_KINDS_WITH_NAME ?lv_KINDS_WITH_NAME ?z_KINDS_WITH_NUMBER ?l_KINDS_WITH_NUMBER ?lc_KINDS_WITH_NUMBER ?ld_KINDS_WITH_NUMBER ?lz_KINDS_WITH_NUMBER ?lv_KINDS_WITH_NUMBER ?z_LETTERS ?r_LETTERS ?z_LETTERS_AND_DIGITS ?r_LETTERS_AND_DIGITS ?z_LONGEST_NAME ?r_LONGEST_NAME ?a_BadKind ?a_BadName ?a_BadNumber ?a_Book ?a_Clash ?a_TooLarge ?a_UnknownStep ?pg_Book ?hd_Book ?po_Book ?sa_Book ?mk_Book ?kc_Book ?nq_Book ?rd_Book ?rg_Book ?nf_Book__sizes ?nf_Book__steps ?cv_Book_CELLS ?cr_Book_CELLS ?cv_Book_STEPS ?cr_Book_STEPS ?opq ?sup ?top ?x_BadKind ?ve_BadKind ?al_BadKind ?sa_BadKind ?no_BadKind ?in_BadKind ?ti_BadKind ?kc_BadKind ?ex_BadKind ?vc_BadKind ?sl_BadKind ?ty_BadKind ?li_BadKind ?ci_BadKind ?cd_BadKind ?fv_BadKind ?fl_BadKind ?ce_BadKind ?x_BadName ?ve_BadName ?al_BadName ?sa_BadName ?no_BadName ?in_BadName ?ti_BadName ?kc_BadName ?ex_BadName ?vc_BadName ?sl_BadName ?ty_BadName ?li_BadName ?ci_BadName ?cd_BadName ?fv_BadName ?fl_BadName ?ce_BadName ?x_BadNumber ?ve_BadNumber ?al_BadNumber ?sa_BadNumber ?no_BadNumber ?in_BadNumber ?ti_BadNumber ?kc_BadNumber ?ex_BadNumber ?vc_BadNumber ?sl_BadNumber ?ty_BadNumber ?li_BadNumber ?ci_BadNumber ?cd_BadNumber ?fv_BadNumber ?fl_BadNumber ?ce_BadNumber ?x_Clash ?ve_Clash ?al_Clash ?sa_Clash ?no_Clash ?in_Clash ?ti_Clash ?kc_Clash ?ex_Clash ?vc_Clash ?sl_Clash ?ty_Clash ?li_Clash ?ci_Clash ?cd_Clash ?fv_Clash ?fl_Clash ?ce_Clash ?x_TooLarge ?ve_TooLarge ?al_TooLarge ?sa_TooLarge ?no_TooLarge ?in_TooLarge ?ti_TooLarge ?kc_TooLarge ?ex_TooLarge ?vc_TooLarge ?sl_TooLarge ?ty_TooLarge ?li_TooLarge ?ci_TooLarge ?cd_TooLarge ?fv_TooLarge ?fl_TooLarge ?ce_TooLarge ?x_UnknownStep ?ve_UnknownStep ?al_UnknownStep ?sa_UnknownStep ?no_UnknownStep ?in_UnknownStep ?ti_UnknownStep ?kc_UnknownStep ?ex_UnknownStep ?vc_UnknownStep ?sl_UnknownStep ?ty_UnknownStep ?li_UnknownStep ?ci_UnknownStep ?cd_UnknownStep ?fv_UnknownStep ?fl_UnknownStep ?ce_UnknownStep ?sp ?tk ?oc_Book ?om_Book ?io_Book ?a0 ?l0 ?c0 ?k0 ?a1 ?l1 ?c1 ?k1 ?a2 ?l2 ?c2 ?k2 ?a3 ?l3 ?c3 ?k3 ?a4 ?t4 ?l4 ?c4 ?k4 ?a5 ?t5 ?l5 ?c5 ?k5 ?a6 ?l6 ?c6 ?k6 ?a7 ?l7 ?c7 ?k7 ?a8 ?l8 ?c8 ?k8 ?a9 ?l9 ?c9 ?k9 ?a10 ?l10 ?c10 ?k10 ?a11 ?l11 ?c11 ?k11 ?a12 ?l12 ?c12 ?k12 ?a13 ?l13 ?c13 ?k13 ?a14 ?l14 ?c14 ?k14 ?a15 ?l15 ?c15 ?k15 ?a16 ?l16 ?c16 ?k16 ?a17 ?l17 ?c17 ?k17 ?a18 ?l18 ?c18 ?k18 ?a19 ?t19 ?l19 ?c19 ?k19 ?a20 ?l20 ?c20 ?k20 ?a21 ?l21 ?c21 ?k21 ?a22 ?l22 ?c22 ?k22 ?a23 ?l23 ?c23 ?k23 ?a24 ?l24 ?c24 ?k24 ?a25 ?l25 ?c25 ?k25 ?a26 ?l26 ?c26 ?k26 ?a27 ?l27 ?c27 ?k27 ?a28 ?t28 ?l28 ?c28 ?k28 ?a29 ?l29 ?c29 ?k29 ?a30 ?l30 ?c30 ?k30 ?a31 ?l31 ?c31 ?k31 ?a32 ?l32 ?c32 ?k32 ?a33 ?l33 ?c33 ?k33 ?a34 ?l34 ?c34 ?k34 ?a35 ?l35 ?c35 ?k35 ?a36 ?l36 ?c36 ?k36 ?a37 ?l37 ?c37 ?k37
    (case n_all => k_is)
    (case n_bool => k_is)
    (case n_int => k_is)
    (case n_isinstance => k_is)
    (case n_len => k_is)
    (case n_list => k_is)
    (case n_range => k_is)
    (case n_str => k_is)
    (case n_tuple => k_is)
    (case z_BOTH => k_is)
    (case l_BOTH => k_is)
    (case lc_BOTH => rfl)
    (case ld_BOTH => rfl)
    (case lz_BOTH => decide)
    (case lv_BOTH => exact Paired.cons ⟨_, rfl⟩ (Paired.cons ⟨_, rfl⟩ (Paired.nil)))
    (case z_CALMING => k_is)
    (case l_CALMING => k_is)
    (case lc_CALMING => rfl)
    (case ld_CALMING => rfl)
    (case lz_CALMING => decide)
    (case lv_CALMING => exact Paired.cons ⟨_, rfl⟩ (Paired.cons ⟨_, rfl⟩ (Paired.nil)))
    (case z_CELL_SIZES => k_is)
    (case l_CELL_SIZES => k_is)
    (case lc_CELL_SIZES => rfl)
    (case ld_CELL_SIZES => rfl)
    (case lz_CELL_SIZES => decide)
    (case lv_CELL_SIZES => exact Paired.cons ⟨_, rfl⟩ (Paired.cons ⟨_, rfl⟩ (Paired.nil)))
    (case z_DONE => k_is)
    (case l_DONE => k_is)
    (case lc_DONE => rfl)
    (case ld_DONE => rfl)
    (case lz_DONE => decide)
    (case lv_DONE => exact Paired.cons ⟨_, rfl⟩ (Paired.nil))
    (case z_GREATEST_NUMBER => k_is)
    (case r_GREATEST_NUMBER => exact ⟨_, rfl⟩)
    (case z_KINDS_WITH_NAME => k_is)
    (case l_KINDS_WITH_NAME => k_is)
    (case lc_KINDS_WITH_NAME => rfl)
    (case ld_KINDS_WITH_NAME => rfl)
    (case lz_KINDS_WITH_NAME => decide)
    (case lv_KINDS_WITH_NAME => exact Paired.cons ⟨_, rfl⟩ (Paired.cons ⟨_, rfl⟩ (Paired.nil)))
    (case z_KINDS_WITH_NUMBER => k_is)
    (case l_KINDS_WITH_NUMBER => k_is)
    (case lc_KINDS_WITH_NUMBER => rfl)
    (case ld_KINDS_WITH_NUMBER => rfl)
    (case lz_KINDS_WITH_NUMBER => decide)
    (case lv_KINDS_WITH_NUMBER => exact Paired.cons ⟨_, rfl⟩ (Paired.cons ⟨_, rfl⟩ (Paired.nil)))
    (case z_LETTERS => k_is)
    (case r_LETTERS => exact ⟨_, rfl⟩)
    (case z_LETTERS_AND_DIGITS => k_is)
    (case r_LETTERS_AND_DIGITS => exact ⟨_, rfl⟩)
    (case z_LONGEST_NAME => k_is)
    (case r_LONGEST_NAME => exact ⟨_, rfl⟩)
    (case a_BadKind => k_is)
    (case a_BadName => k_is)
    (case a_BadNumber => k_is)
    (case a_Book => k_is)
    (case a_Clash => k_is)
    (case a_TooLarge => k_is)
    (case a_UnknownStep => k_is)
    (case pg_Book => k_is)
    (case hd_Book => k_is)
    (case po_Book => k_is)
    (case sa_Book => k_is)
    (case mk_Book => k_is)
    (case kc_Book => k_is)
    (case nq_Book => k_is)
    (case rd_Book => k_is)
    (case rg_Book => k_is)
    (case nf_Book__sizes => k_is)
    (case nf_Book__steps => k_is)
    (case cv_Book_CELLS => k_is)
    (case cr_Book_CELLS => exact ⟨_, rfl⟩)
    (case cv_Book_STEPS => k_is)
    (case cr_Book_STEPS => exact ⟨_, rfl⟩)
    (case opq => k_is)
    (case sup => k_is)
    (case top => decide +kernel)
    (case x_BadKind => k_is)
    (case ve_BadKind => decide +kernel)
    (case al_BadKind => ks_is)
    (case sa_BadKind => k_is)
    (case no_BadKind => k_is)
    (case in_BadKind => k_is)
    (case ti_BadKind => k_is)
    (case kc_BadKind => k_is)
    (case ex_BadKind => k_is)
    (case vc_BadKind => k_is)
    (case sl_BadKind => k_is)
    (case ty_BadKind => k_is)
    (case li_BadKind => k_is)
    (case ci_BadKind => k_is)
    (case cd_BadKind => k_is)
    (case fv_BadKind => rfl)
    (case fl_BadKind => first | rfl | decide +kernel)
    (case ce_BadKind => k_is)
    (case x_BadName => k_is)
    (case ve_BadName => decide +kernel)
    (case al_BadName => ks_is)
    (case sa_BadName => k_is)
    (case no_BadName => k_is)
    (case in_BadName => k_is)
    (case ti_BadName => k_is)
    (case kc_BadName => k_is)
    (case ex_BadName => k_is)
    (case vc_BadName => k_is)
    (case sl_BadName => k_is)
    (case ty_BadName => k_is)
    (case li_BadName => k_is)
    (case ci_BadName => k_is)
    (case cd_BadName => k_is)
    (case fv_BadName => rfl)
    (case fl_BadName => first | rfl | decide +kernel)
    (case ce_BadName => k_is)
    (case x_BadNumber => k_is)
    (case ve_BadNumber => decide +kernel)
    (case al_BadNumber => ks_is)
    (case sa_BadNumber => k_is)
    (case no_BadNumber => k_is)
    (case in_BadNumber => k_is)
    (case ti_BadNumber => k_is)
    (case kc_BadNumber => k_is)
    (case ex_BadNumber => k_is)
    (case vc_BadNumber => k_is)
    (case sl_BadNumber => k_is)
    (case ty_BadNumber => k_is)
    (case li_BadNumber => k_is)
    (case ci_BadNumber => k_is)
    (case cd_BadNumber => k_is)
    (case fv_BadNumber => rfl)
    (case fl_BadNumber => first | rfl | decide +kernel)
    (case ce_BadNumber => k_is)
    (case x_Clash => k_is)
    (case ve_Clash => decide +kernel)
    (case al_Clash => ks_is)
    (case sa_Clash => k_is)
    (case no_Clash => k_is)
    (case in_Clash => k_is)
    (case ti_Clash => k_is)
    (case kc_Clash => k_is)
    (case ex_Clash => k_is)
    (case vc_Clash => k_is)
    (case sl_Clash => k_is)
    (case ty_Clash => k_is)
    (case li_Clash => k_is)
    (case ci_Clash => k_is)
    (case cd_Clash => k_is)
    (case fv_Clash => rfl)
    (case fl_Clash => first | rfl | decide +kernel)
    (case ce_Clash => k_is)
    (case x_TooLarge => k_is)
    (case ve_TooLarge => decide +kernel)
    (case al_TooLarge => ks_is)
    (case sa_TooLarge => k_is)
    (case no_TooLarge => k_is)
    (case in_TooLarge => k_is)
    (case ti_TooLarge => k_is)
    (case kc_TooLarge => k_is)
    (case ex_TooLarge => k_is)
    (case vc_TooLarge => k_is)
    (case sl_TooLarge => k_is)
    (case ty_TooLarge => k_is)
    (case li_TooLarge => k_is)
    (case ci_TooLarge => k_is)
    (case cd_TooLarge => k_is)
    (case fv_TooLarge => rfl)
    (case fl_TooLarge => first | rfl | decide +kernel)
    (case ce_TooLarge => k_is)
    (case x_UnknownStep => k_is)
    (case ve_UnknownStep => decide +kernel)
    (case al_UnknownStep => ks_is)
    (case sa_UnknownStep => k_is)
    (case no_UnknownStep => k_is)
    (case in_UnknownStep => k_is)
    (case ti_UnknownStep => k_is)
    (case kc_UnknownStep => k_is)
    (case ex_UnknownStep => k_is)
    (case vc_UnknownStep => k_is)
    (case sl_UnknownStep => k_is)
    (case ty_UnknownStep => k_is)
    (case li_UnknownStep => k_is)
    (case ci_UnknownStep => k_is)
    (case cd_UnknownStep => k_is)
    (case fv_UnknownStep => rfl)
    (case fl_UnknownStep => first | rfl | decide +kernel)
    (case ce_UnknownStep => k_is)
    (case sp => k_is)
    (case tk => k_is)
    (case oc_Book => k_is)
    (case om_Book => k_is)
    (case io_Book => kit_is)
    (case a0 => k_is)
    (case l0 => k_is)
    (case c0 => k_is)
    (case k0 => k_is)
    (case a1 => k_is)
    (case l1 => k_is)
    (case c1 => k_is)
    (case k1 => k_is)
    (case a2 => k_is)
    (case l2 => k_is)
    (case c2 => k_is)
    (case k2 => k_is)
    (case a3 => k_is)
    (case l3 => k_is)
    (case c3 => k_is)
    (case k3 => k_is)
    (case a4 => k_is)
    (case t4 => k_is)
    (case l4 => k_is)
    (case c4 => k_is)
    (case k4 => k_is)
    (case a5 => k_is)
    (case t5 => k_is)
    (case l5 => k_is)
    (case c5 => k_is)
    (case k5 => k_is)
    (case a6 => k_is)
    (case l6 => k_is)
    (case c6 => k_is)
    (case k6 => k_is)
    (case a7 => k_is)
    (case l7 => k_is)
    (case c7 => k_is)
    (case k7 => k_is)
    (case a8 => k_is)
    (case l8 => k_is)
    (case c8 => k_is)
    (case k8 => k_is)
    (case a9 => k_is)
    (case l9 => k_is)
    (case c9 => k_is)
    (case k9 => k_is)
    (case a10 => k_is)
    (case l10 => k_is)
    (case c10 => k_is)
    (case k10 => k_is)
    (case a11 => k_is)
    (case l11 => k_is)
    (case c11 => k_is)
    (case k11 => k_is)
    (case a12 => k_is)
    (case l12 => k_is)
    (case c12 => k_is)
    (case k12 => k_is)
    (case a13 => k_is)
    (case l13 => k_is)
    (case c13 => k_is)
    (case k13 => k_is)
    (case a14 => k_is)
    (case l14 => k_is)
    (case c14 => k_is)
    (case k14 => k_is)
    (case a15 => k_is)
    (case l15 => k_is)
    (case c15 => k_is)
    (case k15 => k_is)
    (case a16 => k_is)
    (case l16 => k_is)
    (case c16 => k_is)
    (case k16 => k_is)
    (case a17 => k_is)
    (case l17 => k_is)
    (case c17 => k_is)
    (case k17 => k_is)
    (case a18 => k_is)
    (case l18 => k_is)
    (case c18 => k_is)
    (case k18 => k_is)
    (case a19 => k_is)
    (case t19 => k_is)
    (case l19 => k_is)
    (case c19 => k_is)
    (case k19 => k_is)
    (case a20 => k_is)
    (case l20 => k_is)
    (case c20 => k_is)
    (case k20 => k_is)
    (case a21 => k_is)
    (case l21 => k_is)
    (case c21 => k_is)
    (case k21 => k_is)
    (case a22 => k_is)
    (case l22 => k_is)
    (case c22 => k_is)
    (case k22 => k_is)
    (case a23 => k_is)
    (case l23 => k_is)
    (case c23 => k_is)
    (case k23 => k_is)
    (case a24 => k_is)
    (case l24 => k_is)
    (case c24 => k_is)
    (case k24 => k_is)
    (case a25 => k_is)
    (case l25 => k_is)
    (case c25 => k_is)
    (case k25 => k_is)
    (case a26 => k_is)
    (case l26 => k_is)
    (case c26 => k_is)
    (case k26 => k_is)
    (case a27 => k_is)
    (case l27 => k_is)
    (case c27 => k_is)
    (case k27 => k_is)
    (case a28 => k_is)
    (case t28 => k_is)
    (case l28 => k_is)
    (case c28 => k_is)
    (case k28 => k_is)
    (case a29 => k_is)
    (case l29 => k_is)
    (case c29 => k_is)
    (case k29 => k_is)
    (case a30 => k_is)
    (case l30 => k_is)
    (case c30 => k_is)
    (case k30 => k_is)
    (case a31 => k_is)
    (case l31 => k_is)
    (case c31 => k_is)
    (case k31 => k_is)
    (case a32 => k_is)
    (case l32 => k_is)
    (case c32 => k_is)
    (case k32 => k_is)
    (case a33 => k_is)
    (case l33 => k_is)
    (case c33 => k_is)
    (case k33 => k_is)
    (case a34 => k_is)
    (case l34 => k_is)
    (case c34 => k_is)
    (case k34 => k_is)
    (case a35 => k_is)
    (case l35 => k_is)
    (case c35 => k_is)
    (case k35 => k_is)
    (case a36 => k_is)
    (case l36 => k_is)
    (case c36 => k_is)
    (case k36 => k_is)
    (case a37 => k_is)
    (case l37 => k_is)
    (case c37 => k_is)
    (case k37 => k_is)
#print axioms PySem.Challenge.cw_exitdeeds_k31_live_words_holds

