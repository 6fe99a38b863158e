import PyProof.Rows.All
import Wide.All
import OpenK.AllK
import Wide.FinOn
import HandS.ForMost
import HandS.Exc
import HandS.TryOnly
import HandS.WordsExc
import HandS.WordsList
import HandS.Wide
import HandS.IsInst
import HandS.SetIn
import HandS.Deep
import HandS.ExcField
import HandS.ExcIs
import KE.KExcIs
import KE.KExcSuper
import PyProof.DictUpdate
import PyProof.DictDisplay
import HandS.Property
import HandS.ClsMeth
import HandS.OwnEq
import HandS.More
import HandS.TupAny
import HandS.Small
import HandS.HotCalls
import HandS.IterVal
import KE.KOwnIter
import KE.GoesMore
import KE.GoesEnum
import HandS.Walk
import HandS.Codes
import HandS.TupLe
import PyProof.FactsAll.object_2
import KE.SortKeyHeap
import KE.KDictPairs
import HandS.SortKw
import HandS.RaiseMore
import PySem.Challenge.RW_exitdeeds_k07_whole_action_checks
set_option Elab.async false
set_option linter.all false
set_option maxRecDepth 100000
namespace Ov
open PySem PySem.Spec PyProof.Rows L2

/-! ### a def that may be called -/
/-- the def called x keeps sp -/
def Cal (P : Program) (w : World) (K : PySem.W.Frag) (mg : Str → Option Value) (base : Heap) (CX : CXT) (k : Nat) (x : Str) (ps : List Str) (sp : Sp) : Prop :=
  ∃ (f : Addr) (fd : FuncData), FnOk P w K mg base CX k f fd ps sp ∧ mg x = some (.ref f) ∧ PySem.W.keepIn K (.ref f) = true ∧ Binds K fd ps []
/-- the def called x stands in the text -/
def Has (K : PySem.W.Frag) (mg : Str → Option Value) (x : Str) (st : Stmt) (ps : List Str) : Prop :=
  ∃ (f : Addr) (fd : FuncData), Fun K x x st f fd ∧ mg x = some (.ref f) ∧ ∀ us : List Value, us.length = ps.length → bindArgs fd ⟨us, []⟩ = pure (ps.zip us)
section
variable {P : Program} {w : World} {K : PySem.W.Frag} {mg : Str → Option Value} {base : Heap} {CX : CXT}
theorem Cal.mono {j k : Nat} {x : Str} {ps : List Str} {sp : Sp} (c : Cal P w K mg base CX j x ps sp) (h : j ≤ k) : Cal P w K mg base CX k x ps sp := by
  obtain ⟨f, fd, F, m, kp, b⟩ := c
  exact ⟨f, fd, F.mono h, m, kp, b⟩
theorem Cal.imp {k : Nat} {x : Str} {ps : List Str} {sp sp' : Sp} (c : Cal P w K mg base CX k x ps sp) (h : ∀ vs H Q E, sp' vs H Q E → sp vs H Q E) : Cal P w K mg base CX k x ps sp' := by
  obtain ⟨f, fd, F, m, kp, b⟩ := c
  exact ⟨f, fd, F.imp h, m, kp, b⟩
theorem Has.ok {x : Str} {st : Stmt} {N ps : List Str} {k : Nat} {sp : Sp} (h : Has K mg x st ps) (S : FnScope N ps (defScope st)) (len : ∀ vs H Q E, sp vs H Q E → vs.length = ps.length)
    (hbody : ∀ (f : Addr) (cdv : Value) (A : Around) (outer : List Env) (s : Shared) (H : Hp) (vs : List V) (Q : VK) (E : XK), Room k (A.deeper (envOfC x (defScope st) s.heap.objs.size f cdv)) → sp vs H Q E →
      ∃ t, PSs (cxOf CX0 P w K mg base N x (defScope st) f cdv A outer s H E).nox (defBody st) t ∧ t { nx := fun _ H' => Q .non H', rt := Q } (start N vs) H) : Cal P w K mg base CX0 (k + 1) x ps sp := by
  obtain ⟨f, fd, F, m, b⟩ := h
  exact ⟨f, fd, F.ok S len (fun cdv A outer s H vs Q E hr h => hbody f cdv A outer s H vs Q E hr h), m, F.kp, .all b⟩
theorem Has.okX {x : Str} {st : Stmt} {N ps : List Str} {k : Nat} {sp : Sp} (h : Has K mg x st ps) (S : FnScope N ps (defScope st)) (len : ∀ vs H Q E, sp vs H Q E → vs.length = ps.length)
    (hbody : ∀ (f : Addr) (cdv : Value) (A : Around) (outer : List Env) (s : Shared) (H : Hp) (vs : List V) (Q : VK) (E : XK), Room k (A.deeper (envOfC x (defScope st) s.heap.objs.size f cdv)) → sp vs H Q E →
      ∃ t, PSs (cxOf (L2.CX P w) P w K mg base N x (defScope st) f cdv A outer s H E) (defBody st) t ∧ t { nx := fun _ H' => Q .non H', rt := Q } (start N vs) H) : Cal P w K mg base (L2.CX P w) (k + 1) x ps sp := by
  obtain ⟨f, fd, F, m, b⟩ := h
  exact ⟨f, fd, F.okX S len (fun cdv A outer s H vs Q E hr h => hbody f cdv A outer s H vs Q E hr h), m, F.kp, .all b⟩
end
/-- a promise that asks for what cannot be -/
theorem Has.void {P : Program} {w : World} {K : PySem.W.Frag} {mg : Str → Option Value} {base : Heap} {CX : CXT} {k : Nat} {x : Str} {st : Stmt} {ps : List Str} {sp : Sp} (h : Has K mg x st ps) (no : ∀ vs H Q E, ¬ sp vs H Q E) : Cal P w K mg base CX k x ps sp := by
  obtain ⟨f, fd, F, m, b⟩ := h
  exact ⟨f, fd, ⟨fun vs H Q E h => (no _ _ _ _ h).elim, fun A outer s H args us vs Q E hr he hb hv hs => (no _ _ _ _ hs).elim⟩, m, F.kp, .all b⟩
theorem has_mk {K : PySem.W.Frag} {h : Heap} {mg : Str → Option Value} (X : K.In h) (G : h.Ns mainGlobals mg) {x : Str} {st : Stmt} {ps : List Str} {f : Addr} {oc : Value} {od an : Option Addr} {osl : Array (Option Value)} {kV doc pm cdv ct : Value}
    (a : PySem.W.nsIn K mainGlobals x = some (some (.ref f))) (l : K.lookup f = some ⟨oc, od, .func (PySem.W.fnOf x x (defArgs st) (defBody st) (defScope st) .none kV doc pm an cdv ct), osl⟩)
    (c : PySem.W.codeIn K cdv x = true) (k : PySem.W.keepIn K (.ref f) = true)
    (hb : ∀ (kV doc pm : Value) (an : Option Addr) (cdv ct : Value) (us : List Value), us.length = ps.length → bindArgs (PySem.W.fnOf x x (defArgs st) (defBody st) (defScope st) .none kV doc pm an cdv ct) ⟨us, []⟩ = pure (ps.zip us)) : Has K mg x st ps :=
  ⟨f, _, fun_mk l c k, PySem.W.mg_of X G a, hb kV doc pm an cdv ct⟩
/-- the law itself -/
theorem law_end {P : Program} {w : World} {K : PySem.W.Frag} {mg : Str → Option Value} {k : Nat} {st : Stmt} {x y : Str} {sp : Sp} {CX : CXT} {fa : Addr} (h : Has K mg x st [y]) (hfa : mg x = some (.ref fa))
    (F : ∀ base : Heap, K.In base → base.Ns mainGlobals mg → ∀ (f : Addr) (fd : FuncData), Fun K x x st f fd → FnOk P w K mg base CX k f fd [y] sp) :
    ∃ fd : FuncData, (∀ (s : Shared) (u : Value), BindsTo s fd ⟨[u], []⟩ [(y, u)]) ∧ ∀ base : Heap, K.In base → base.Ns mainGlobals mg → FnOk P w K mg base CX k fa fd [y] sp := by
  obtain ⟨f, fd, Fu, m, b⟩ := h
  have e : fa = f := Value.ref.inj (Option.some.inj (hfa.symm.trans m))
  subst e
  exact ⟨fd, fun s u => .of_eq (b [u] rfl), fun base hi hn => F base hi hn _ fd Fu⟩
section
variable {X : Cx} {k : Nat} {x : Str} {ps : List Str} {sp : Sp} {p pos : Pos} {e : Expr} {es : List Expr} {t : TA}
theorem pe_fn (c : Cal X.prog X.w X.K X.mg X.base CX0 k x ps sp) (hr : Room k X.A) (hg : Gl X x) (ha : PA X (e :: es) t) (hdb : (x == ("__debug__" : Str)) = false := by decide)
    (he : starEach (e :: es) X.env = (false, eval e X.env) :: starEach es X.env := by rfl) (hpl : (backTo pos (starEach es X.env)).any (·.1) = false := by rfl) : PE X (.Call (.Name x p) (e :: es) [] pos) (tCall sp [] E0 t) := by
  obtain ⟨f, fd, F, m, kp, b⟩ := c
  exact pe_call F hr hg m kp b .nil pass0 ha hdb he hpl
theorem pe_fn0 (c : Cal X.prog X.w X.K X.mg X.base CX0 k x ps sp) (hr : Room k X.A) (hg : Gl X x) (hdb : (x == ("__debug__" : Str)) = false := by decide) : PE X (.Call (.Name x p) [] [] pos) (tCall sp [] E0 tNil) := by
  obtain ⟨f, fd, F, m, kp, b⟩ := c
  exact pe_call0 F hr hg m kp b .nil pass0 hdb
end

/-! ### operators by what they meet -/
theorem OpR.or {X : Cx} {f : Value → Value → Sem Value} {r r' : R2} (a : OpR X f r) (b : OpR X f r') : OpR X f (fun x y H Q => r x y H Q ∨ r' x y H Q) := by
  intro pins s σ H x y v u Q I rx ry h
  rcases h with h | h
  · exact a pins s σ H x y v u Q I rx ry h
  · exact b pins s σ H x y v u Q I rx ry h
theorem OpR.of {X : Cx} {f : Value → Value → Sem Value} {r r' : R2} (a : OpR X f r) (h : ∀ x y H Q, r' x y H Q → r x y H Q) : OpR X f r' := by
  intro pins s σ H x y v u Q I rx ry q
  exact a pins s σ H x y v u Q I rx ry (h _ _ _ _ q)

/-- + : two ints, two texts, two lists, two tuples -/
def oAdd (K : PySem.W.Frag) : R2 := fun x y H Q => match x, y with
  | .int i, .int j => Q (.int (i + j)) H
  | .str a, .str b => a.length + b.length ≤ sizeLine ∧ Q (.str (a ++ b)) H
  | .ref p, .ref q => rCat (.ref p) (.ref q) H Q ∨ rCatT K (.ref p) (.ref q) H Q
  | _, _ => False
theorem op_oAdd {X : Cx} : OpR X (binaryOp .Add) (oAdd X.K) := by
  refine OpR.of (OpR.or op_add (OpR.or op_add_str (OpR.or op_cat op_catT))) fun x y H Q h => ?_
  unfold oAdd at h
  split at h
  · exact .inl ⟨_, _, rfl, rfl, h⟩
  · exact .inr (.inl ⟨_, _, rfl, rfl, h.1, h.2⟩)
  · rcases h with h | h
    · exact .inr (.inr (.inl h))
    · exact .inr (.inr (.inr h))
  · exact h.elim
def oSub : R2 := fun x y H Q => match x, y with
  | .int i, .int j => Q (.int (i - j)) H
  | _, _ => False
theorem op_oSub {X : Cx} : OpR X (binaryOp .Sub) oSub := by
  refine OpR.of op_sub fun x y H Q h => ?_
  unfold oSub at h
  split at h
  · exact ⟨_, _, rfl, rfl, h⟩
  · exact h.elim
theorem op_mul_str {X : Cx} : OpR X (binaryOp .Mult) (fun x y H Q => ∃ z n, x = .str z ∧ y = .int n ∧ MulOk z n ∧ Q (.str (Txt.mul z n)) H) := by
  intro pins s σ H x y v u Q I rx ry h
  obtain ⟨z, n, rfl, rfl, hok, q⟩ := h
  obtain ⟨t, rfl⟩ := rx
  obtain ⟨t', rfl⟩ := ry
  exact SB.mul hok fun t' k => ⟨.str (Txt.mul z n), H, I.tok k, ⟨_, rfl⟩, q⟩
/-- * : two ints, a text and an int, a list and an int -/
def oMul : R2 := fun x y H Q => match x, y with
  | .int i, .int j => CMulW i j ∧ Q (.int (i * j)) H
  | .str a, .int n => MulOk a n ∧ Q (.str (Txt.mul a n)) H
  | .ref p, .int n => rRep (.ref p) (.int n) H Q
  | _, _ => False
theorem op_oMul {X : Cx} : OpR X (binaryOp .Mult) oMul := by
  refine OpR.of (OpR.or op_mulW (OpR.or op_mul_str op_rep)) fun x y H Q h => ?_
  unfold oMul at h
  split at h
  · exact .inl ⟨_, _, rfl, rfl, h.1, h.2⟩
  · exact .inr (.inl ⟨_, _, rfl, rfl, h.1, h.2⟩)
  · exact .inr (.inr h)
  · exact h.elim
def oMod : R2 := fun x y H Q => match x, y with
  | .int i, .int j => 0 < j ∧ Q (.int (i % j)) H
  | _, _ => False
theorem op_oMod {X : Cx} : OpR X (binaryOp .Mod) oMod := by
  refine OpR.of op_mod fun x y H Q h => ?_
  unfold oMod at h
  split at h
  · exact ⟨_, _, rfl, rfl, h.1, h.2⟩
  · exact h.elim
def oDiv : R2 := fun x y H Q => match x, y with
  | .int i, .int j => CDivW i j ∧ Q (.int (i / j)) H
  | _, _ => False
theorem op_oDiv {X : Cx} : OpR X (binaryOp .FloorDiv) oDiv := by
  refine OpR.of op_fdivW fun x y H Q h => ?_
  unfold oDiv at h
  split at h
  · exact ⟨_, _, rfl, rfl, h.1, h.2⟩
  · exact h.elim
def oPow : R2 := fun x y H Q => match x, y with
  | .int i, .int j => CPow i j ∧ Q (.int (i ^ j.toNat)) H
  | _, _ => False
theorem op_oPow {X : Cx} : OpR X (binaryOp .Pow) oPow := by
  refine OpR.of op_pow fun x y H Q h => ?_
  unfold oPow at h
  split at h
  · exact ⟨_, _, rfl, rfl, h.1, h.2⟩
  · exact h.elim
/-- an order of two ints -/
def oCmp (p : Int → Int → Bool) : R2 := fun x y H Q => match x, y with
  | .int i, .int j => Q (.bl (p i j)) H
  | _, _ => False
abbrev oLt : R2 := oCmp fun i j => decide (i < j)
abbrev oLe : R2 := oCmp fun i j => decide (i ≤ j)
abbrev oGt : R2 := oCmp fun i j => decide (j < i)
abbrev oGe : R2 := oCmp fun i j => decide (j ≤ i)
theorem oCmp_of {p : Int → Int → Bool} {x y : V} {H : Hp} {Q : VK} (h : oCmp p x y H Q) : rI0 (fun i j => .bl (p i j)) x y H Q := by
  unfold oCmp at h
  split at h
  · exact ⟨_, _, rfl, rfl, h⟩
  · exact h.elim
theorem op_oLt {X : Cx} : OpR X (compareOp .Lt) oLt := OpR.of op_lt fun _ _ _ _ h => oCmp_of h
theorem op_oLe {X : Cx} : OpR X (compareOp .LtE) oLe := OpR.of op_le fun _ _ _ _ h => oCmp_of h
theorem op_oGt {X : Cx} : OpR X (compareOp .Gt) oGt := OpR.of op_gt fun _ _ _ _ h => oCmp_of h
theorem op_oGe {X : Cx} : OpR X (compareOp .GtE) oGe := OpR.of op_ge fun _ _ _ _ h => oCmp_of h
def oIsN : R2 := fun x y H Q => y = .non ∧ Q (.bl (decide (x = .non))) H
def oNotN : R2 := fun x y H Q => y = .non ∧ Q (.bl (!decide (x = .non))) H
theorem op_oIsN {X : Cx} : OpR X (compareOp .Is) oIsN := op_isN
theorem op_oNotN {X : Cx} : OpR X (compareOp .IsNot) oNotN := op_notN
/-- == of flat values, and of data as a whole -/
def oEq (K : PySem.W.Frag) : R2 := fun x y H Q => rEq x y H Q ∨ rEqD K x y H Q
def oNe (K : PySem.W.Frag) : R2 := fun x y H Q => rNe x y H Q ∨ rNeD K x y H Q
theorem op_oEq {X : Cx} (hu : X.A.units + 65 < cLine) : OpR X (compareOp .Eq) (oEq X.K) := OpR.or op_eq (op_eqD (by omega))
theorem op_oNe {X : Cx} (hu : X.A.units + 65 < cLine) : OpR X (compareOp .NotEq) (oNe X.K) := OpR.or op_ne (op_neD (by omega))
theorem hu65 {k : Nat} {A : Around} (r : Room k A) : A.units + 65 < cLine := by have := r.un; omega
/-- x in a list or tuple of data -/
def rInT (K : PySem.W.Frag) (neg : Bool) : R2 := fun x y H Q => ∃ d ds, Dp K H x d ∧ (Dp K H y (.tuple ds) ∨ Dp K H y (.list ds)) ∧ SeqAt.shaped d = true ∧ SeqAt.shaped (.list ds) = true ∧ Q (.bl (if neg then !ds.any fun z => PyData.eqv z d else ds.any fun z => PyData.eqv z d)) H
theorem shaped_tl {ds : List PyData} : PyData.canLay0 (.tuple ds) = PyData.canLay0 (.list ds) := by simp [PyData.canLay0]
theorem op_inT {X : Cx} (hu : X.A.units + 65 < cLine) : OpR X (compareOp .In) (rInT X.K false) := by
  intro pins s σ H x y v u Q I rx ry h
  obtain ⟨d, ds, hd, he, sd, se, q⟩ := h
  obtain ⟨as, r1⟩ := Dp.reads I d x v hd rx
  rcases he with he | he
  · obtain ⟨bs, r2⟩ := Dp.reads I (.tuple ds) y u he ry
    exact SeqAt.in_tuple_reads r2 r1 (SeqAt.canLay_of_shaped se) (SeqAt.canLay_of_shaped sd) (room_in_shaped sd hu) ⟨.bl _, H, I, rfl, q⟩
  · obtain ⟨bs, r2⟩ := Dp.reads I (.list ds) y u he ry
    exact SeqAt.in_list_reads r2 r1 (SeqAt.canLay_of_shaped se) (SeqAt.canLay_of_shaped sd) (room_in_shaped sd hu) ⟨.bl _, H, I, rfl, q⟩
theorem op_notInT {X : Cx} (hu : X.A.units + 65 < cLine) : OpR X (compareOp .NotIn) (rInT X.K true) := by
  intro pins s σ H x y v u Q I rx ry h
  obtain ⟨d, ds, hd, he, sd, se, q⟩ := h
  obtain ⟨as, r1⟩ := Dp.reads I d x v hd rx
  rcases he with he | he
  · obtain ⟨bs, r2⟩ := Dp.reads I (.tuple ds) y u he ry
    exact SeqAt.notIn_tuple_reads r2 r1 (SeqAt.canLay_of_shaped se) (SeqAt.canLay_of_shaped sd) (room_in_shaped sd hu) ⟨.bl _, H, I, rfl, q⟩
  · obtain ⟨bs, r2⟩ := Dp.reads I (.list ds) y u he ry
    exact SeqAt.notIn_list_reads r2 r1 (SeqAt.canLay_of_shaped se) (SeqAt.canLay_of_shaped sd) (room_in_shaped sd hu) ⟨.bl _, H, I, rfl, q⟩
/-- in: one sign in a text, a flat thing in a list or tuple -/
def oIn (K : PySem.W.Frag) : R2 := fun x y H Q => match y with
  | .str z => ∃ c : Nat, x = .str ⟨#[c]⟩ ∧ Q (.bl (decide (c ∈ z.cps.toList))) H
  | .ref p => rIn K false x (.ref p) H Q ∨ rInT K false x (.ref p) H Q
  | _ => False
def oNotIn (K : PySem.W.Frag) : R2 := fun x y H Q => match y with
  | .str z => ∃ c : Nat, x = .str ⟨#[c]⟩ ∧ Q (.bl (!decide (c ∈ z.cps.toList))) H
  | .ref p => rIn K true x (.ref p) H Q ∨ rInT K true x (.ref p) H Q
  | _ => False
theorem op_oIn {X : Cx} (hu : X.A.units + 65 < cLine) : OpR X (compareOp .In) (oIn X.K) := by
  refine OpR.of (OpR.or op_in_sign (OpR.or op_in_seq (op_inT hu))) fun x y H Q h => ?_
  unfold oIn at h
  split at h
  · obtain ⟨c, rfl, q⟩ := h
    exact .inl ⟨c, _, rfl, rfl, q⟩
  · exact .inr h
  · exact h.elim
theorem op_oNotIn {X : Cx} (hu : X.A.units + 65 < cLine) : OpR X (compareOp .NotIn) (oNotIn X.K) := by
  refine OpR.of (OpR.or op_notIn_sign (OpR.or op_notIn_seq (op_notInT hu))) fun x y H Q h => ?_
  unfold oNotIn at h
  split at h
  · obtain ⟨c, rfl, q⟩ := h
    exact .inl ⟨c, _, rfl, rfl, q⟩
  · exact .inr h
  · exact h.elim
def oNeg : V → Hp → VK → Prop := fun x H Q => match x with
  | .int i => Q (.int (-i)) H
  | _ => False
theorem un_oNeg {X : Cx} : UnR X (unaryOp .USub) oNeg := by
  intro pins s σ H x u Q I rx h
  refine un_neg pins s σ H x u Q I rx ?_
  unfold oNeg at h
  split at h
  · exact ⟨_, rfl, h⟩
  · exact h.elim

/-! ### built-in functions -/
def cInt : List V → Hp → VK → Prop := fun xs H Q => match xs with
  | [.int i] => Q (.int i) H
  | [.bl k] => Q (.int (if k then 1 else 0)) H
  | _ => False
theorem call_cInt {X : Cx} : CallR X (.type "int") cInt := by
  intro pins s σ H xs us Q I r h
  refine call_int1 pins s σ H xs us Q I r ?_
  unfold cInt at h
  split at h
  · exact .inl ⟨_, rfl, h⟩
  · exact .inr ⟨_, rfl, h⟩
  · exact h.elim
def cAbs : List V → Hp → VK → Prop := fun xs H Q => match xs with
  | [.int i] => Q (.int (i.natAbs : Int)) H
  | _ => False
theorem call_cAbs {X : Cx} : CallR X (.builtin "abs") cAbs := by
  intro pins s σ H xs us Q I r h
  refine call_abs pins s σ H xs us Q I r ?_
  unfold cAbs at h
  split at h
  · rename_i i
    refine ⟨_, rfl, ?_⟩
    have e : (if i < 0 then -i else i) = (i.natAbs : Int) := by split <;> omega
    rw [e]
    exact h
  · exact h.elim
def cLen (K : PySem.W.Frag) : List V → Hp → VK → Prop := fun xs H Q => ∃ x n, xs = [x] ∧ LenV K x H n ∧ Q (.int n) H
theorem call_cLen {X : Cx} : CallR X (.builtin "len") (cLen X.K) := call_len
def cList (K : PySem.W.Frag) : List V → Hp → VK → Prop := fun xs H Q => ∃ p ys, xs = [.ref p] ∧ (SqL K H p ys ∨ SqT K H p ys) ∧ ∀ l, H l = none → Q (.ref l) (upd H l (.lst ys))
theorem call_cList {X : Cx} : CallR X (.type "list") (cList X.K) := call_list_of
def cTuple (K : PySem.W.Frag) : List V → Hp → VK → Prop := fun xs H Q => ∃ p ys, xs = [.ref p] ∧ SqL K H p ys ∧ ∀ l, H l = none → Q (.ref l) (upd H l (.tup ys))
/-- isinstance with one built-in class, by what the value is -/
def isTy (x : V) (H : Hp) (n : String) (b : Bool) : Prop := match x with
  | .non => b = false
  | .bl _ => b = (n == "bool" || n == "int")
  | .int _ => b = (n == "int")
  | .str _ => b = (n == "str")
  | .ref p => (∃ xs, H p = some (.tup xs)) ∧ b = (n == "tuple") ∨ (∃ xs, H p = some (.lst xs)) ∧ b = (n == "list")
  | _ => False
def tyNames : List String := ["bool", "int", "str", "tuple", "list"]
def cIsi (_K : PySem.W.Frag) : List V → Hp → VK → Prop := fun xs H Q => ∃ x n b, xs = [x, .ty n] ∧ n ∈ tyNames ∧ isTy x H n b ∧ Q (.bl b) H
theorem kit_names (K : PySem.W.Frag) : ∀ t ∈ (["NoneType", "bool", "int", "str", "tuple", "list"] : List String), ∀ n ∈ tyNames, PySem.W.kitOne K (.type t) (.type n) = some (t == n || (t == "bool" && n == "int")) := by
  intro t ht n hn
  simp only [tyNames, List.mem_cons, List.not_mem_nil, or_false] at ht hn
  rcases ht with rfl | rfl | rfl | rfl | rfl | rfl <;> rcases hn with rfl | rfl | rfl | rfl | rfl <;> exact kit_ty (by decide +kernel)

theorem call_cIsi {X : Cx} : CallR X (.builtin "isinstance") (cIsi X.K) := by
  intro pins s σ H xs us Q I r h
  refine call_isi pins s σ H xs us Q I r ?_
  obtain ⟨x, n, b, rfl, hn, ht, q⟩ := h
  have hk := fun t ht => kit_names X.K t ht n hn
  unfold isTy at ht
  split at ht
  · refine ⟨_, _, _, _, b, rfl, .ty n, .base .non, ?_, q⟩
    rw [hk "NoneType" (by decide), ht]
    simp only [tyNames, List.mem_cons, List.not_mem_nil, or_false] at hn
    rcases hn with rfl | rfl | rfl | rfl | rfl <;> rfl
  · refine ⟨_, _, _, _, b, rfl, .ty n, .base (.bl _), ?_, q⟩
    rw [hk "bool" (by decide), ht]
    simp only [tyNames, List.mem_cons, List.not_mem_nil, or_false] at hn
    rcases hn with rfl | rfl | rfl | rfl | rfl <;> rfl
  · refine ⟨_, _, _, _, b, rfl, .ty n, .base (.int _), ?_, q⟩
    rw [hk "int" (by decide), ht]
    simp only [tyNames, List.mem_cons, List.not_mem_nil, or_false] at hn
    rcases hn with rfl | rfl | rfl | rfl | rfl <;> rfl
  · refine ⟨_, _, _, _, b, rfl, .ty n, .base (.str _), ?_, q⟩
    rw [hk "str" (by decide), ht]
    simp only [tyNames, List.mem_cons, List.not_mem_nil, or_false] at hn
    rcases hn with rfl | rfl | rfl | rfl | rfl <;> rfl
  · rcases ht with ⟨⟨xs, e⟩, ht⟩ | ⟨⟨xs, e⟩, ht⟩
    · refine ⟨_, _, _, _, b, rfl, .ty n, .base (.tup e), ?_, q⟩
      rw [hk "tuple" (by decide), ht]
      simp only [tyNames, List.mem_cons, List.not_mem_nil, or_false] at hn
      rcases hn with rfl | rfl | rfl | rfl | rfl <;> rfl
    · refine ⟨_, _, _, _, b, rfl, .ty n, .base (.lst e), ?_, q⟩
      rw [hk "list" (by decide), ht]
      simp only [tyNames, List.mem_cons, List.not_mem_nil, or_false] at hn
      rcases hn with rfl | rfl | rfl | rfl | rfl <;> rfl
  · exact ht.elim

/-! ### slices, items, what a for walks: by what they meet -/
def oSl (K : PySem.W.Frag) : V → Option Int → Option Int → Hp → VK → Prop := fun x lo hi H Q => match x with
  | .str z => z.length ≤ sizeLine ∧ Q (.str (cutS z lo hi)) H
  | .ref p => rSlL K (.ref p) lo hi H Q ∨ rSlT K (.ref p) lo hi H Q
  | _ => False
theorem sl_oSl {X : Cx} : SlR X (oSl X.K) := by
  intro pins s σ H x v vl vu lo hi sl Q I rx hs pl pu h
  unfold oSl at h
  split at h
  · exact sl_str pins s σ H _ v vl vu lo hi sl Q I rx hs pl pu ⟨_, rfl, h.1, h.2⟩
  · rcases h with h | h
    · exact sl_list pins s σ H _ v vl vu lo hi sl Q I rx hs pl pu h
    · exact sl_tup pins s σ H _ v vl vu lo hi sl Q I rx hs pl pu h
  · exact h.elim
def oIx (K : PySem.W.Frag) : R2 := fun x y H Q => match x, y with
  | .str z, .int i => ∃ c : Nat, z.length ≤ sizeLine ∧ atI z.cps.toList i = some c ∧ Q (.str ⟨#[c]⟩) H
  | .ref p, .int i => ∃ xs v, (SqL K H p xs ∨ SqT K H p xs) ∧ atI xs i = some v ∧ Q v H
  | _, _ => False
theorem ix_oIx {X : Cx} : IxR X (oIx X.K) := by
  have key : ∀ x y H Q, oIx X.K x y H Q → rIx X.K x y H Q := by
    intro x y H Q h
    unfold oIx at h
    split at h
    · obtain ⟨c, hz, e, q⟩ := h
      exact .inr (.inr ⟨_, _, c, rfl, rfl, hz, e, q⟩)
    · obtain ⟨xs, v, hs, e, q⟩ := h
      rcases hs with hs | hs
      · exact .inl ⟨_, xs, _, v, rfl, rfl, hs, e, q⟩
      · exact .inr (.inl ⟨_, xs, _, v, rfl, rfl, hs, e, q⟩)
    · exact h.elim
  have base := ix_seq (X := X)
  unfold IxR at base ⊢
  intros
  apply base <;> first | assumption | (apply key; assumption)
def iAny (K : PySem.W.Frag) (tl : TE) : TI := fun σ H R => iList K tl σ H R ∨ iTup K tl σ H R ∨ iStr tl σ H R
theorem pi_any {X : Cx} {tg l : Expr} {tl : TE} (hl : PE X l tl) : PI X tg l (iAny X.K tl) := ⟨fun pins s σ H R I h => by
  rcases h with h | h | h
  · exact (pi_list hl).run pins s σ H R I h
  · exact (pi_tup hl).run pins s σ H R I h
  · exact (pi_str hl).run pins s σ H R I h⟩
theorem PE.or {X : Cx} {e : Expr} {t u : TE} (a : PE X e t) (b : PE X e u) : PE X e (fun σ H Q => t σ H Q ∨ u σ H Q) := ⟨fun pins s σ H Q I h => by
  rcases h with h | h
  · exact a.run pins s σ H Q I h
  · exact b.run pins s σ H Q I h⟩
/-- a comparison in the middle: a < b < c -/
theorem PT.or {X : Cx} {e : Expr} {t u : TT} (a : PT X e t) (b : PT X e u) : PT X e (fun σ H Q => t σ H Q ∨ u σ H Q) := ⟨fun pins s σ H Q I h => by
  rcases h with h | h
  · exact a.run pins s σ H Q I h
  · exact b.run pins s σ H Q I h⟩

theorem bi_int : bootBuiltins "int" = some (.type "int") := by decide +kernel
theorem bi_list : bootBuiltins "list" = some (.type "list") := by decide +kernel
theorem bi_tuple : bootBuiltins "tuple" = some (.type "tuple") := by decide +kernel
theorem bi_bool : bootBuiltins "bool" = some (.type "bool") := by decide +kernel
theorem bi_str : bootBuiltins "str" = some (.type "str") := by decide +kernel
theorem bi_dict : bootBuiltins "dict" = some (.type "dict") := by decide +kernel
theorem bi_len : bootBuiltins "len" = some (.builtin "len") := by decide +kernel
theorem bi_abs : bootBuiltins "abs" = some (.builtin "abs") := by decide +kernel
theorem bi_isinstance : bootBuiltins "isinstance" = some (.builtin "isinstance") := by decide +kernel
theorem bi_ValueError : bootBuiltins "ValueError" = some (.type "ValueError") := by decide +kernel
end Ov

set_option Elab.async false
set_option linter.all false
set_option maxRecDepth 100000
namespace Ov
open PySem PySem.Spec PyProof.Rows L2
/-! ### readings, step by step -/
section
variable {σ σ' : L2.St} {H H' : Hp} {t u : TS} {D : Ends} {te ta tb : TE} {tt tu : TT} {g : TG} {Q : VK} {QB : Bool → Hp → Prop} {i : Nat} {v : V} {r : R2} {QA : List V → Hp → Prop} {al ar : TA}
theorem q_seq (h : t { D with nx := u D } σ H) : tSeq t u D σ H := h
theorem q_asg (h : te σ H fun x H1 => g x σ H1 D.nx) : tAsg te g D σ H := h
theorem q_name {QS : L2.St → Hp → Prop} (h : QS (σ.set i (some v)) H) : gName i v σ H QS := h
theorem q_drop (h : te σ H fun _ H1 => D.nx σ H1) : tDrop te D σ H := h
theorem q_ret (h : te σ H D.rt) : tRet te D σ H := h
theorem q_retN (h : D.rt .non H) : tRetN D σ H := h
theorem q_next (h : D.nx σ H) : tNext D σ H := h
theorem q_break (h : D.bk σ H) : tBreak D σ H := h
theorem q_cont (h : D.ct σ H) : tCont D σ H := h
theorem q_ifS (h : tt σ H fun b H1 => if b = true then t D σ H1 else u D σ H1) : tIfS tt t u D σ H := h
theorem q_ifE (h : tt σ H fun c H1 => if c = true then ta σ H1 Q else tb σ H1 Q) : tIf tt ta tb σ H Q := h
theorem q_var (e : σ[i]? = some (some v)) (h : Q v H) : tVar i σ H Q := ⟨v, e, h⟩
theorem q_c (h : Q v H) : tC v σ H Q := h
theorem q_op (h : ta σ H fun x H1 => tb σ H1 fun y H2 => r x y H2 Q) : tOp r ta tb σ H Q := h
theorem q_un {r : V → Hp → VK → Prop} (h : ta σ H fun x H1 => r x H1 Q) : tUn r ta σ H Q := h
theorem q_test (h : te σ H fun x H' => ∃ k, x = .bl k ∧ QB k H') : tTest te σ H QB := h
theorem q_tB (h : te σ H fun x H' => ∃ k, x = .bl k ∧ QB k H') : tB te σ H QB := h
theorem q_bl {b : Bool} {R : Bool → Prop} (h : R b) : ∃ k, V.bl b = V.bl k ∧ R k := ⟨b, rfl, h⟩
theorem q_and (h : tt σ H fun c H1 => if c = true then tu σ H1 QB else QB false H1) : tAnd tt tu σ H QB := h
theorem q_or (h : tt σ H fun c H1 => if c = true then QB true H1 else tu σ H1 QB) : tOr tt tu σ H QB := h
theorem q_not (h : tt σ H fun c H1 => QB (!c) H1) : tNot tt σ H QB := h
theorem q_andV (h : ta σ H fun x H1 => ∃ c, x = .bl c ∧ if c = true then tb σ H1 Q else Q (.bl false) H1) : tAndV ta tb σ H Q := h
theorem q_orV (h : ta σ H fun x H1 => ∃ c, x = .bl c ∧ if c = true then Q (.bl true) H1 else tb σ H1 Q) : tOrV ta tb σ H Q := h
theorem q_notV (h : ta σ H fun x H1 => ∃ c, x = .bl c ∧ Q (.bl (!c)) H1) : tNotV ta σ H Q := h
theorem q_cons (h : te σ H fun x H1 => ar σ H1 fun xs H2 => QA (x :: xs) H2) : tCons te ar σ H QA := h
theorem q_nil (h : QA [] H) : tNil σ H QA := h
theorem q_call {sp : Sp} {dvs : List V} {E : XK} (h : al σ H fun vs H1 => sp (vs ++ dvs) H1 Q E) : tCall sp dvs E al σ H Q := h
theorem q_cb {r : List V → Hp → VK → Prop} (h : al σ H fun vs H1 => r vs H1 Q) : tCB r al σ H Q := h
theorem q_tup (h : al σ H fun xs H1 => xs.length ≤ sizeLine ∧ ∀ p, H1 p = none → Q (.ref p) (upd H1 p (.tup xs))) : tTup al σ H Q := h
theorem q_lst (h : al σ H fun xs H1 => xs.length ≤ sizeLine ∧ ∀ p, H1 p = none → Q (.ref p) (upd H1 p (.lst xs))) : tLst al σ H Q := h
theorem q_sl {r : V → Option Int → Option Int → Hp → VK → Prop} {tl th : TO} (h : te σ H fun x H1 => tl σ H1 fun l H2 => th σ H2 fun u H3 => r x l u H3 Q) : tSl r te tl th σ H Q := h
theorem q_noPart {QO : Option Int → Hp → Prop} (h : QO none H) : tNoPart σ H QO := h
theorem q_part {QO : Option Int → Hp → Prop} (h : te σ H fun x H1 => ∃ i, x = .int i ∧ QO (some i) H1) : tPart te σ H QO := h
theorem q_int {j : Int} {R : Int → Prop} (h : R j) : ∃ i, V.int j = V.int i ∧ R i := ⟨j, rfl, h⟩
theorem q_gsub {to ti : TE} {ts : TSet} {QS : L2.St → Hp → Prop} (h : to σ H fun o H1 => ti σ H1 fun i H2 => ts o i v H2 fun H3 => QS σ H3) : gSub to ti ts v σ H QS := h
theorem q_bm {K : PySem.W.Frag} {T : String} {r : V → List V → Hp → VK → Prop} (h : te σ H fun x H1 => tyV K T x H1 ∧ al σ H1 fun xs H2 => r x xs H2 Q) : tBM K T r te al σ H Q := h
theorem q_bm0 {K : PySem.W.Frag} {T : String} {r : V → List V → Hp → VK → Prop} (h : te σ H fun x H1 => tyV K T x H1 ∧ r x [] H1 Q) : tBM0 K T r te σ H Q := h
theorem q_for {wi : TI} {tb : TS} (h : wi σ H fun J H1 => ∃ W : Nat → Nat → L2.St → Hp → Prop, (∃ m, W 0 m σ H1) ∧ ∀ i m σ H, W i m σ H →
  (J.stop i H ∧ D.nx σ H) ∨ (J.go i H ∧ ∃ N : L2.St → Hp → Prop, (∀ σ' H', N σ' H' → ∃ m', m' < m ∧ W (i + 1) m' σ' H') ∧ ∀ x H', J.yld i H x H' → g x σ H' fun σ2 H2 => tb { D with nx := N, ct := N, bk := D.nx } σ2 H2)) : tFor wi g tb D σ H := h
/-! operators at values that are known -/
theorem q_addI {K : PySem.W.Frag} {i j : Int} (h : Q (.int (i + j)) H) : oAdd K (.int i) (.int j) H Q := h
theorem q_subI {i j : Int} (h : Q (.int (i - j)) H) : oSub (.int i) (.int j) H Q := h
theorem q_ltI {i j : Int} (h : Q (.bl (decide (i < j))) H) : oLt (.int i) (.int j) H Q := h
theorem q_leI {i j : Int} (h : Q (.bl (decide (i ≤ j))) H) : oLe (.int i) (.int j) H Q := h
theorem q_gtI {i j : Int} (h : Q (.bl (decide (j < i))) H) : oGt (.int i) (.int j) H Q := h
theorem q_geI {i j : Int} (h : Q (.bl (decide (j ≤ i))) H) : oGe (.int i) (.int j) H Q := h
theorem q_negI {i : Int} (h : Q (.int (-i)) H) : oNeg (.int i) H Q := h
theorem q_cIntI {i : Int} (h : Q (.int i) H) : cInt [.int i] H Q := h
theorem q_cIntB {k : Bool} (h : Q (.int (if k then 1 else 0)) H) : cInt [.bl k] H Q := h
theorem q_cAbs {i : Int} (h : Q (.int (i.natAbs : Int)) H) : cAbs [.int i] H Q := h
theorem q_modI {i j : Int} (hj : 0 < j) (h : Q (.int (i % j)) H) : oMod (.int i) (.int j) H Q := ⟨hj, h⟩
theorem q_eqS {K : PySem.W.Frag} {x y : V} (hs : scal x y = true) (h : Q (.bl (decide (x = y))) H) : oEq K x y H Q := .inl ⟨hs, h⟩
theorem q_neS {K : PySem.W.Frag} {x y : V} (hs : scal x y = true) (h : Q (.bl (!decide (x = y))) H) : oNe K x y H Q := .inl ⟨hs, h⟩
theorem q_eqD {K : PySem.W.Frag} {x y : V} {d e : PyData} (hx : Dp K H x d) (hy : Dp K H y e) (sx : SeqAt.shaped d = true) (sy : SeqAt.shaped e = true) (h : Q (.bl (PyData.eqv d e)) H) : oEq K x y H Q := .inr ⟨d, e, hx, hy, sx, sy, h⟩
theorem q_inD {K : PySem.W.Frag} {x : V} {p : Addr} {d : PyData} {ds : List PyData} (hx : Dp K H x d) (hy : Dp K H (.ref p) (.tuple ds) ∨ Dp K H (.ref p) (.list ds)) (sx : SeqAt.shaped d = true) (sy : SeqAt.shaped (.list ds) = true) (h : Q (.bl (ds.any fun z => PyData.eqv z d)) H) : oIn K x (.ref p) H Q := .inr ⟨d, ds, hx, hy, sx, sy, h⟩
theorem q_isN (h : Q (.bl (decide (v = .non))) H) : oIsN v .non H Q := ⟨rfl, h⟩
theorem q_notN (h : Q (.bl (!decide (v = .non))) H) : oNotN v .non H Q := ⟨rfl, h⟩
theorem q_ixS {K : PySem.W.Frag} {z : Str} {i : Int} {c : Nat} (hz : z.length ≤ sizeLine) (e : atI z.cps.toList i = some c) (h : Q (.str ⟨#[c]⟩) H) : oIx K (.str z) (.int i) H Q := ⟨c, hz, e, h⟩
theorem q_ixL {K : PySem.W.Frag} {p : Addr} {xs : List V} {i : Int} (hp : H p = some (.lst xs)) (e : atI xs i = some v) (h : Q v H) : oIx K (.ref p) (.int i) H Q := ⟨xs, v, .inl (SqL.of hp), e, h⟩
theorem q_ixT {K : PySem.W.Frag} {p : Addr} {xs : List V} {i : Int} (hp : H p = some (.tup xs)) (e : atI xs i = some v) (h : Q v H) : oIx K (.ref p) (.int i) H Q := ⟨xs, v, .inr (SqT.of hp), e, h⟩
theorem q_setL {p : Addr} {xs : List V} {k : Int} {j : Nat} {QH : Hp → Prop} (hp : H p = some (.lst xs)) (e : ixN xs.length k = some j) (h : QH (upd H p (.lst (xs.set j v)))) : rSetL (.ref p) (.int k) v H QH := ⟨p, xs, k, j, rfl, rfl, hp, e, h⟩
theorem q_lenL {K : PySem.W.Frag} {p : Addr} {xs : List V} (hp : H p = some (.lst xs)) (h : Q (.int xs.length) H) : cLen K [.ref p] H Q := ⟨_, xs.length, rfl, .inl ⟨xs, SqL.of hp, rfl⟩, h⟩
theorem q_lenT {K : PySem.W.Frag} {p : Addr} {xs : List V} (hp : H p = some (.tup xs)) (h : Q (.int xs.length) H) : cLen K [.ref p] H Q := ⟨_, xs.length, rfl, .inr ⟨xs, SqT.of hp, rfl⟩, h⟩
theorem q_lenS {K : PySem.W.Frag} {z : Str} (hz : z.length ≤ sizeLine) (h : Q (.int z.length) H) : cLen K [.str z] H Q := ⟨_, z.length, rfl, ⟨hz, rfl⟩, h⟩
theorem q_addS {K : PySem.W.Frag} {a b : Str} (hl : a.length + b.length ≤ sizeLine) (h : Q (.str (a ++ b)) H) : oAdd K (.str a) (.str b) H Q := ⟨hl, h⟩
theorem q_addL {K : PySem.W.Frag} {p q : Addr} {xs ys : List V} (hp : H p = some (.lst xs)) (hq : H q = some (.lst ys)) (hl : xs.length + ys.length ≤ sizeLine) (h : ∀ r, H r = none → Q (.ref r) (upd H r (.lst (xs ++ ys)))) : oAdd K (.ref p) (.ref q) H Q := .inl ⟨p, q, xs, ys, rfl, rfl, hp, hq, hl, h⟩
theorem q_mulI {i j : Int} (hc : CMulW i j) (h : Q (.int (i * j)) H) : oMul (.int i) (.int j) H Q := ⟨hc, h⟩
theorem q_divI {i j : Int} (hc : CDivW i j) (h : Q (.int (i / j)) H) : oDiv (.int i) (.int j) H Q := ⟨hc, h⟩
theorem q_powI {i j : Int} (hc : CPow i j) (h : Q (.int (i ^ j.toNat)) H) : oPow (.int i) (.int j) H Q := ⟨hc, h⟩
theorem q_slS {K : PySem.W.Frag} {z : Str} {lo hi : Option Int} (hz : z.length ≤ sizeLine) (h : Q (.str (cutS z lo hi)) H) : oSl K (.str z) lo hi H Q := ⟨hz, h⟩
theorem q_isi {K : PySem.W.Frag} {x : V} {n : String} (b : Bool) (hn : n ∈ tyNames) (ht : isTy x H n b) (h : Q (.bl b) H) : cIsi K [x, .ty n] H Q := ⟨x, n, b, rfl, hn, ht, h⟩
theorem q_inS {K : PySem.W.Frag} {c : Nat} {z : Str} (h : Q (.bl (decide (c ∈ z.cps.toList))) H) : oIn K (.str ⟨#[c]⟩) (.str z) H Q := ⟨c, rfl, h⟩
theorem q_notInS {K : PySem.W.Frag} {c : Nat} {z : Str} (h : Q (.bl (!decide (c ∈ z.cps.toList))) H) : oNotIn K (.str ⟨#[c]⟩) (.str z) H Q := ⟨c, rfl, h⟩
theorem q_append {p : Addr} {xs : List V} (hp : H p = some (.lst xs)) (hl : xs.length < sizeLine) (h : Q .non (upd H p (.lst (xs ++ [v])))) : rAppend (.ref p) [v] H Q := ⟨p, xs, v, rfl, rfl, hp, hl, h⟩
end
theorem q_dec {p A B : Prop} [Decidable p] (h1 : p → A) (h2 : ¬ p → B) : if decide p = true then A else B := by
  by_cases h : p
  · rw [if_pos (decide_eq_true h)]
    exact h1 h
  · rw [if_neg (by rw [decide_eq_false h]; exact Bool.false_ne_true)]
    exact h2 h
theorem q_decT {p A B : Prop} [Decidable p] (h : p) (h1 : A) : if decide p = true then A else B := by
  rw [if_pos (decide_eq_true h)]
  exact h1
theorem q_decF {p A B : Prop} [Decidable p] (h : ¬ p) (h1 : B) : if decide p = true then A else B := by
  rw [if_neg (by rw [decide_eq_false h]; exact Bool.false_ne_true)]
  exact h1
theorem q_ndec {p A B : Prop} [Decidable p] (h1 : ¬ p → A) (h2 : p → B) : if (!decide p) = true then A else B := by
  by_cases h : p
  · rw [if_neg (by rw [decide_eq_true h]; decide)]
    exact h2 h
  · rw [if_pos (by rw [decide_eq_false h]; decide)]
    exact h1 h
theorem q_T {A B : Prop} (h : A) : if true = true then A else B := by
  rw [if_pos rfl]
  exact h
theorem q_F {A B : Prop} (h : B) : if false = true then A else B := by
  rw [if_neg Bool.false_ne_true]
  exact h
theorem q_b {A B : Prop} {b : Bool} (h1 : b = true → A) (h2 : b = false → B) : if b = true then A else B := by
  cases b with
  | true => exact q_T (h1 rfl)
  | false => exact q_F (h2 rfl)

/-! ### pure tests and values, as a whole -/
def Val (te : TE) (σ : L2.St) (H : Hp) (v : V) : Prop := ∀ Q : VK, Q v H → te σ H Q
def Ans (t : TT) (σ : L2.St) (H : Hp) (b : Bool) : Prop := ∀ Q : Bool → Hp → Prop, Q b H → t σ H Q
section
variable {σ : L2.St} {H : Hp} {t u : TS} {D : Ends} {te ta tb : TE} {tt tu : TT} {i : Nat} {v x y z : V} {r : R2} {b b1 b2 : Bool} {Q : VK} {K : PySem.W.Frag} {p : Addr} {xs : List V} {k : Int}
theorem q_ifA (h : Ans tt σ H b) (h1 : b = true → t D σ H) (h2 : b = false → u D σ H) : tIfS tt t u D σ H := by
  refine h _ ?_
  cases b with
  | true => exact q_T (h1 rfl)
  | false => exact q_F (h2 rfl)
theorem q_val (h : Val te σ H v) (q : Q v H) : te σ H Q := h Q q
theorem an_test (h : Val te σ H (.bl b)) : Ans (tTest te) σ H b := fun Q q => h _ ⟨b, rfl, q⟩
theorem an_tB (h : Val te σ H (.bl b)) : Ans (tB te) σ H b := fun Q q => h _ ⟨b, rfl, q⟩
theorem an_and (h1 : Ans tt σ H b1) (h2 : b1 = true → Ans tu σ H b2) : Ans (tAnd tt tu) σ H (b1 && b2) := by
  intro Q q
  refine h1 _ ?_
  cases b1 with
  | true => exact q_T (h2 rfl Q q)
  | false => exact q_F q
theorem an_or (h1 : Ans tt σ H b1) (h2 : b1 = false → Ans tu σ H b2) : Ans (tOr tt tu) σ H (b1 || b2) := by
  intro Q q
  refine h1 _ ?_
  cases b1 with
  | true => exact q_T q
  | false => exact q_F (h2 rfl Q q)
theorem an_not (h : Ans tt σ H b) : Ans (tNot tt) σ H (!b) := fun Q q => h _ q
theorem Ans.to (h : Ans tt σ H b) (e : b = b1) : Ans tt σ H b1 := e ▸ h
theorem va_var (e : σ[i]? = some (some v)) : Val (tVar i) σ H v := fun _ q => ⟨v, e, q⟩
theorem va_c : Val (tC v) σ H v := fun _ q => q
theorem va_op (ha : Val ta σ H x) (hb : Val tb σ H y) (hr : ∀ Q : VK, Q z H → r x y H Q) : Val (tOp r ta tb) σ H z := fun Q q => ha _ (hb _ (hr Q q))
theorem va_eqS (ha : Val ta σ H x) (hb : Val tb σ H y) (hs : scal x y = true) : Val (tOp (oEq K) ta tb) σ H (.bl (decide (x = y))) := va_op ha hb fun _ q => q_eqS hs q
theorem va_neS (ha : Val ta σ H x) (hb : Val tb σ H y) (hs : scal x y = true) : Val (tOp (oNe K) ta tb) σ H (.bl (!decide (x = y))) := va_op ha hb fun _ q => q_neS hs q
theorem va_ixT (ha : Val ta σ H (.ref p)) (hb : Val tb σ H (.int k)) (hp : H p = some (.tup xs)) (e : atI xs k = some v) : Val (tOp (oIx K) ta tb) σ H v := va_op ha hb fun _ q => q_ixT hp e q
theorem va_ixL (ha : Val ta σ H (.ref p)) (hb : Val tb σ H (.int k)) (hp : H p = some (.lst xs)) (e : atI xs k = some v) : Val (tOp (oIx K) ta tb) σ H v := va_op ha hb fun _ q => q_ixL hp e q
theorem va_cmp {f : Int → Int → Bool} {j : Int} (ha : Val ta σ H (.int k)) (hb : Val tb σ H (.int j)) : Val (tOp (oCmp f) ta tb) σ H (.bl (f k j)) := va_op ha hb fun _ q => q
theorem va_add {j : Int} (ha : Val ta σ H (.int k)) (hb : Val tb σ H (.int j)) : Val (tOp (oAdd K) ta tb) σ H (.int (k + j)) := va_op ha hb fun _ q => q
theorem va_lenS {s : Str} {ar : TA} (ha : Val ta σ H (.str s)) (hl : s.length ≤ sizeLine) : Val (tCB (cLen K) (tCons ta tNil)) σ H (.int s.length) := fun Q q => ha _ (q_lenS hl q)
theorem va_lenL {ar : TA} (ha : Val ta σ H (.ref p)) (hp : H p = some (.lst xs)) : Val (tCB (cLen K) (tCons ta tNil)) σ H (.int xs.length) := fun Q q => ha _ (q_lenL hp q)
theorem va_lenT {ar : TA} (ha : Val ta σ H (.ref p)) (hp : H p = some (.tup xs)) : Val (tCB (cLen K) (tCons ta tNil)) σ H (.int xs.length) := fun Q q => ha _ (q_lenT hp q)
theorem va_isN (ha : Val ta σ H x) : Val (tOp oIsN ta (tC .non)) σ H (.bl (decide (x = .non))) := va_op ha va_c fun _ q => q_isN q
theorem va_notN (ha : Val ta σ H x) : Val (tOp oNotN ta (tC .non)) σ H (.bl (!decide (x = .non))) := va_op ha va_c fun _ q => q_notN q
theorem va_isi {n : String} (b : Bool) (ha : Val ta σ H x) (hn : n ∈ tyNames) (ht : isTy x H n b) : Val (tCB (cIsi K) (tCons ta (tCons (tC (.ty n)) tNil))) σ H (.bl b) := fun Q q => ha _ (q_isi (K := K) b hn ht q)
theorem va_andV (ha : Val ta σ H (.bl b1)) (hb : b1 = true → Val tb σ H (.bl b2)) : Val (tAndV ta tb) σ H (.bl (b1 && b2)) := by
  intro Q q
  refine ha _ ⟨b1, rfl, ?_⟩
  cases b1 with
  | true => exact q_T (hb rfl Q q)
  | false => exact q_F q
end

/-! ### loops -/
section
variable {K : PySem.W.Frag} {σ : L2.St} {H : Hp} {D : Ends} {g : TG} {tb : TS} {te : TE} {i : Nat} {a : Addr} {xs : List V}
/-- over a list that the body leaves as it is -/
theorem q_forL (e : σ[i]? = some (some (.ref a))) (Pv : Nat → L2.St → Hp → Prop) (h0 : Pv 0 σ H) (hl : ∀ i σ H, i ≤ xs.length → Pv i σ H → SqL K H a xs)
    (hs : ∀ i x σ H, xs[i]? = some x → Pv i σ H → g x σ H fun σ2 H2 => tb { D with nx := Pv (i + 1), ct := Pv (i + 1), bk := D.nx } σ2 H2) (hd : ∀ σ H, Pv xs.length σ H → D.nx σ H) : tFor (iAny K (tVar i)) g tb D σ H :=
  Or.inl ⟨_, e, a, rfl, ⟨_, hl 0 σ H (Nat.zero_le _) h0⟩, for_list (K := K) (a := a) (xs := xs) Pv h0 hl hs hd⟩
/-- over a list that is written or made there -/
theorem q_forN {al : TA} (h : al σ H fun vs H1 => vs.length ≤ sizeLine ∧ ∀ p, H1 p = none → ∃ Pv : Nat → L2.St → Hp → Prop, Pv 0 σ (upd H1 p (.lst vs)) ∧ (∀ i σ H, i ≤ vs.length → Pv i σ H → SqL K H p vs) ∧
    (∀ i x σ H, vs[i]? = some x → Pv i σ H → g x σ H fun σ2 H2 => tb { D with nx := Pv (i + 1), ct := Pv (i + 1), bk := D.nx } σ2 H2) ∧ (∀ σ H, Pv vs.length σ H → D.nx σ H))
    (mono : ∀ Q Q' : List V → Hp → Prop, (∀ vs H, Q vs H → Q' vs H) → al σ H Q → al σ H Q') : tFor (iAny K (tLst al)) g tb D σ H := by
  refine Or.inl ?_
  show tLst al σ H _
  refine mono _ _ (fun vs H1 q => ?_) h
  obtain ⟨hl, q⟩ := q
  refine ⟨hl, fun p hp => ?_⟩
  obtain ⟨Pv, h0, h1, h2, h3⟩ := q p hp
  exact ⟨p, rfl, ⟨_, h1 0 _ _ (Nat.zero_le _) h0⟩, for_list (K := K) (a := p) (xs := vs) Pv h0 h1 h2 h3⟩
/-- over range(n) -/
theorem q_forR {n : Int} (hv : Val te σ H (.int n)) (h1 : -(2 ^ 62) ≤ n) (h2 : n < 2 ^ 62) (Pv : Nat → L2.St → Hp → Prop) (h0 : Pv 0 σ H)
    (hs : ∀ i σ H, i < n.toNat → Pv i σ H → g (.int (0 + i)) σ H fun σ2 H2 => tb { D with nx := Pv (i + 1), ct := Pv (i + 1), bk := D.nx } σ2 H2) (hd : ∀ σ H, Pv n.toNat σ H → D.nx σ H) : tFor (iRng1 (tCons te tNil)) g tb D σ H :=
  hv _ ⟨n, rfl, h1, h2, for_range Pv h0 hs hd⟩
/-- over a text -/
theorem q_forS {z : Str} (e : σ[i]? = some (some (.str z))) (Pv : Nat → L2.St → Hp → Prop) (h0 : Pv 0 σ H)
    (hs : ∀ i c σ H, z.cps.toList[i]? = some c → Pv i σ H → g (.str ⟨#[c]⟩) σ H fun σ2 H2 => tb { D with nx := Pv (i + 1), ct := Pv (i + 1), bk := D.nx } σ2 H2) (hd : ∀ σ H, Pv z.length σ H → D.nx σ H) : tFor (iAny K (tVar i)) g tb D σ H := by
  refine Or.inr (Or.inr ⟨_, e, z, rfl, ?_⟩)
  refine ⟨fun i m σ H => m = z.length - i ∧ i ≤ z.length ∧ Pv i σ H, ⟨z.length, by simp, Nat.zero_le _, h0⟩, ?_⟩
  rintro i m σ H ⟨rfl, hi, p⟩
  by_cases hlt : i < z.length
  · refine .inr ⟨hlt, Pv (i + 1), fun σ' H' p' => ⟨z.length - (i + 1), by omega, rfl, hlt, p'⟩, fun x H' y => ?_⟩
    obtain ⟨e, c, hc, rfl⟩ := y
    subst e
    exact hs i c σ _ (by rw [Array.getElem?_toList]; exact hc) p
  · have e : i = z.length := by omega
    subst e
    exact .inl ⟨Nat.le_refl _, hd σ H p⟩
end
end Ov

set_option Elab.async false
set_option linter.all false
set_option maxRecDepth 100000
set_option maxHeartbeats 2000000
/-! own errors over ValueError whose __init__ says super().__init__(a text) and keeps one field -/
namespace PySem
namespace ExS
open PySem.W PySem.Calls PyProof.Rows PySem.HandSPX PySem.Spec
/-- what the written part says of the class called cn, at C, and of its __init__, at fI; its one field is fn -/
structure ETxt (P : Program) (K : Frag) (mg : Str → Option Value) (cn fn : Str) (C fI : Addr) : Prop where
  gC : mg cn = some (.ref C)
  cls : ∃ nm q N bs bm sn sub ab col dd k0 k1 k2 k3 k5, K.lookup C = some (excClassObj nm q C N bs bm true sn sub ab col dd k0 k1 k2 k3 k5 "ValueError.__new__") ∧ refsVE bm = true
  alo : ks_superIn K C C "__init__" = some (some (.builtin "ValueError.__init__"))
  sa : findIn K (.ref C) "__setattr__" = some (some (.builtin "object.__setattr__"))
  noN : findIn K (.ref C) fn = some none
  iC : findIn K (.ref C) "__init__" = some (some (.ref fI))
  tC : typeIn K (.ref fI) = some (.type "function")
  kC : keepIn K (.ref C) = true
  exC : subIn K (.ref C) (.type "BaseException") = some true
  veC : subIn K (.ref C) (.type "ValueError") = some true
  slf : mroIn K C (.ref C) = some true
  tyC : typeIn K (.ref C) = some (.type "type")
  opq : nsIn K cStatics "thirdparty.any" = some none
  sup : mg "super" = none
  top : (P.main.scope.names.lookup ("super" : Str)).isSome = false
  fun_ : ∃ (oc : Value) (od : Option Addr) (params : Arguments) (body : List Stmt) (scope : Scope) (qual : Str) (doc pm : Value) (an : Option Addr) (cda cc : Addr) (ct : Value) (osl : Array (Option Value)) (p1 p2 a1 a2 a3 a4 a5 a6 b1 b2 b3 b4 : Pos) (j : Nat) (txt : Str)
      (ccl cl : Value) (cdd cld : Option Addr) (vs : Array Value) (ccs csl : Array (Option Value)) (file : Str) (tf : Tok),
    K.lookup fI = some ⟨oc, od, .func (ksFn "__init__" qual params body scope .none .none doc pm an (.ref cda) ct cc), osl⟩ ∧ codeIn K (.ref cda) qual = true ∧
    params = { posonlyargs := [], args := [{ arg := "self", annotation := none, pos := p1 }, { arg := fn, annotation := none, pos := p2 }], vararg := none, kwonlyargs := [], kw_defaults := [], kwarg := none, defaults := [] } ∧
    body = [.Expr (.Call (.Attribute (.Call (.Name "super" a1) [] [] a2) "__init__" a3) [.Constant (.str txt) j a4] [] a5) a6, .Assign [.Attribute (.Name "self" b1) fn b2] (.Name fn b3) b4] ∧
    scope = { kind := .function, names := [("self", .local), (fn, .local), ("__class__", .free), ("super", .globalImplicit)], isGenerator := false, isCoroutine := false, more := [] } ∧
    (∀ (x : Addr) (v : Value), bindArgs (ksFn "__init__" qual params body scope .none .none doc pm an (.ref cda) ct cc) ⟨[.ref x, v], []⟩ = pure [(("self" : Str), Value.ref x), (fn, v)]) ∧
    (∃ pl : Sem Bool, ∀ env : Env, eval (.Call (.Attribute (.Call (.Name "super" a1) [] [] a2) "__init__" a3) [.Constant (.str txt) j a4] [] a5) env = (do
      let ov ← attributeBase (.Call (.Name "super" a1) [] [] a2) "__init__" env (eval (.Call (.Name "super" a1) [] [] a2) env)
      standAt a3.atName
      let (f, first) ← holding [ov] (getMethod ov "__init__" pl)
      callWith a5 f first (backTo a5 (starEach [.Constant (.str txt) j a4] env)) [])) ∧
    (∀ env : Env, swapsWith (.Call (.Attribute (.Call (.Name "super" a1) [] [] a2) "__init__" a3) [.Constant (.str txt) j a4] [] a5) none a6.line env = pure false) ∧
    (∀ env : Env, swapsWith (.Name fn b3) (some (.Attribute (.Name "self" b1) fn b2)) b4.line env = pure false) ∧
    K.lookup cda = some ⟨ccl, cdd, .fields vs, ccs⟩ ∧ vs[2]? = some (.str file tf) ∧ ((P.main.file : Str) == file) = true ∧ K.lookup cc = some ⟨cl, cld, .cell (some (.ref C)), csl⟩
/-- what __init__ leaves of a fresh exception at x -/
structure IEnd (fn : Str) (h h' : Heap) (x C dx t1 : Addr) (v : Value) : Prop where
  keep : ∀ b o, b ≠ x → h.get? b = some o → h'.get? b = some o
  obj : h'.get? x = some { cls := .ref C, dict := some dx, data := .fields #[.ref t1, .none, .none, .none, .bool false, .none] }
  dbig : h.objs.size ≤ dx
  dne : dx ≠ x
  ns : h'.Ns1 dx (fun y => if y = fn then some v else none)
theorem ldK {M : Model} {s : Shared} {env : Env} {L : Addr} {m : Str → Option Value} {x : Str} {pos : Pos} {v : Value} {Q : Value → Shared → Prop} {A : Around} {E : Value → Shared → Prop} (hL : env.locals = L) (hn : s.heap.Ns L m) (hv : m x = some v) (h : Q v s)
    (hk : env.scope.kind = .function) (hl : env.kindOf x = some .local) (hd : (x == ("__debug__" : Str)) = false) :
    wpAny M A (eval (.Name x pos) env) Q E s := by
  subst hL
  exact wpAny_Name (wpAny_loadName_local hk hl hn hv h) hd
theorem callWithK {M : Model} {A : Around} {E : Value → Shared → Prop} {s : Shared} {i : String} {u x : Addr} {pos : Pos} {env : Env} {e : Expr} {rest : List Expr} {Q : Value → Shared → Prop}
    (h : wpAny M A (spliced (backTo pos (starEach (e :: rest) env))) (fun vs s₁ => KxsAt i u x s₁.heap ∧ wpAny M A (call (.ref u) vs) Q E s₁) E s)
    (he : starEach (e :: rest) env = (false, eval e env) :: starEach rest env := by rfl) (hplain : (backTo pos (starEach rest env)).any (·.1) = false := by rfl) :
    wpAny M A (callWith pos (.ref u) [] (backTo pos (starEach (e :: rest) env)) []) Q E s := by
  rw [he] at h ⊢
  refine kxs_callWith (i := i) (x := x) (by show (false || (backTo pos (starEach rest env)).any (·.1)) = false; rw [hplain]; rfl) ?_
  exact evalArgs_plain h
section
variable {P : Program} {w : World} {A : Around} {E : Value → Shared → Prop} {R : Result → Shared → Prop} {s : Shared} {K : Frag} {mg : Str → Option Value} {C fI : Addr} {cn fn : Str}
theorem e_init (T : ETxt P K mg cn fn C fI) (hfn : fn ≠ "self") (hfd : (fn == ("__debug__" : Str)) = false) (hfs : (fn == ("super" : Str)) = false) (hfc : (fn == ("__class__" : Str)) = false) {x t0 : Addr} {v : Value} {mb : Str → Option Value} (X : K.In s.heap) (hg : s.heap.Ns mainGlobals mg) (hb : s.heap.Ns builtinsNs mb) (hbb : ∀ y : Str, y ≠ "__name__" → mb y = bootBuiltins y)
    (hlim : s.heap.NoLimit) (hx : s.heap.get? x = some (excO C t0)) (hnx : K.lookup x = none) (hroom : A.depth < recursionLimit)
    (hq : ∀ h' tk dx t1, IEnd fn s.heap h' x C dx t1 v → R (.ok (.ret .none)) { s with heap := h', toks := tk }) :
    codeAny (model P w) A (.call (.ref fI) ⟨[.ref x, v], []⟩) R s := by
  obtain ⟨oc, od, params, body, scope, qual, doc, pm, an, cda, cc, ct, osl, p1, p2, a1, a2, a3, a4, a5, a6, b1, b2, b3, b4, j, txt, ccl, cl, cdd, cld, vs, ccs, csl, file, tf, ho, hcd, rfl, rfl, rfl, hbn, ⟨pl, hev⟩, hsw1, hsw2, hcda, hvs, hfile, hcell⟩ := T.fun_
  obtain ⟨nm, q, N, bs, bm, sn, sub, ab, col, dd, k0, k1, k2, k3, k5, hC, hbm⟩ := T.cls
  have hcl : clsIn K C = some { name := nm, bases := bs, mro := .ref C :: bm, ns := N, qualname := q, hasDict := true, slotNames := sn, subclasses := sub, abstract := ab, collection := col, hasDel := false } := by unfold clsIn; rw [hC] <;> rfl
  have hal : alongIn K "__init__" (((Value.ref C :: bm).dropWhile (· != .ref C)).drop 1) = some (some (.builtin "ValueError.__init__")) := by
    have z := T.alo
    unfold ks_superIn at z
    rw [hcl] at z
    exact z
  have hsf : (("self" : Str) == fn) = false := by simpa using fun e => hfn e.symm
  have hfs' : (fn == ("self" : Str)) = false := by simpa using hfn
  have lk_self : List.lookup ("self" : Str) [(("self" : Str), NameKind.local), (fn, .local), ("__class__", .free), ("super", .globalImplicit)] = some .local := by simp [List.lookup]
  have lk_fn : List.lookup fn [(("self" : Str), NameKind.local), (fn, .local), ("__class__", .free), ("super", .globalImplicit)] = some .local := by simp [List.lookup, hfs']
  have e1 : (("super" : Str) == ("self" : Str)) = false := by decide
  have e2 : (("super" : Str) == fn) = false := by
    have z : ¬ fn = "super" := by simpa using hfs
    simpa using fun e => z e.symm
  have e3 : (("super" : Str) == ("__class__" : Str)) = false := by decide
  have e4 : (("__class__" : Str) == ("self" : Str)) = false := by decide
  have e5 : (("__class__" : Str) == fn) = false := by
    have z : ¬ fn = "__class__" := by simpa using hfc
    simpa using fun e => z e.symm
  have lk_super : List.lookup ("super" : Str) [(("self" : Str), NameKind.local), (fn, .local), ("__class__", .free), ("super", .globalImplicit)] = some .globalImplicit := by simp [List.lookup, e1, e2, e3]
  have lk_cls : List.lookup ("__class__" : Str) [(("self" : Str), NameKind.local), (fn, .local), ("__class__", .free), ("super", .globalImplicit)] = some .free := by simp [List.lookup, e4, e5]
  refine ks_codeAny_call_defAt (binds := [("self", .ref x), (fn, v)]) hroom (X _ _ ho) rfl hlim (codeRec_of X hcd) rfl (BindsTo.of_eq ?_) ?_ ?_ (fun h₁ hns k => ?_) rfl rfl rfl
  · exact hbn x v
  · intro y hy
    simp only [List.mem_cons, List.not_mem_nil, or_false] at hy
    rcases hy with rfl | rfl | rfl | rfl <;> exact fun e => nomatch e
  · intro y hy
    simp only [List.mem_cons, List.not_mem_nil, or_false] at hy
    rcases hy with rfl | rfl
    · exact lk_self
    · exact lk_fn
  have X₁ : K.In h₁ := X.keeps k
  have hx₁ := k _ _ hx
  refine ks_wpAt_execs_cons (ks_wpAt_Expr_any (ks_wpAt_MethodCall ?_ (hev _)) rfl (hsw1 _))
  obtain ⟨oD, hD1, hD2⟩ : ∃ oD, h₁.get? C = some oD ∧ oD.data = .cls { name := nm, bases := bs, mro := .ref C :: bm, ns := N, qualname := q, hasDict := true, slotNames := sn, subclasses := sub, abstract := ab, collection := col, hasDel := false } := ⟨_, X₁ _ _ hC, rfl⟩
  have hkg : ∀ b o, s.heap.get? b = some o → h₁.get? b = some o := k
  refine ks_wpAt_super_base lk_super lk_cls (by decide) rfl (X₁ _ _ ho) rfl rfl rfl (X₁ _ _ hcda) rfl hvs hfile T.top ?_
  refine ks_loadName_global rfl lk_super (loadGlobal_builtin (hg.keeps k) T.sup (hb.keeps k) ((hbb _ (by decide +kernel)).trans (by decide +kernel)) ⟨rfl, ?_⟩)
  refine wpAny_loadName_free rfl lk_cls rfl ⟨_, X₁ _ _ hcell, rfl⟩ ?_
  refine wpAny_loadName_local rfl lk_self hns (v := .ref x) (by simp [List.lookup, hsf]) ?_
  refine ks_wpAny_isType_cls hD1 hD2 ⟨rfl, ?_⟩
  refine ks_wpAny_call_super hD1 hD2 hx₁ rfl (fun c e => nomatch e) (looks_mroIn X₁ T.slf) (fun h₂ e k₂ => ?_)
  -- its __init__, bound
  have X₂ : K.In h₂ := X₁.keeps k₂
  have hx₂ := k₂ _ _ hx₁
  have hxC : x ≠ C := fun z => by rw [z, hC] at hnx; cases hnx
  have I₂ : InstAt h₂ x (excO C t0) C none := ⟨hx₂, rfl, rfl, trivial⟩
  refine kxs_getMethod kxs_ValueError e (looks_opaque X₂ T.opq) (l₀ := .ref C :: bm) (fun A Q E s k q => wpAny_bind ((looks_clsIn X₂ hcl) A _ E s k (wpAny_pure q))) rfl X₂ hal (I₂.type.andThen (looks_subIn X₂ T.veC)) hxC (by decide) ?_
  -- the call
  have k₃ : ∀ b o, h₂.get? b = some o → (h₂.push (kxs_mw "ValueError.__init__" x)).get? b = some o := fun b o z => Heap.get?_push_of_some _ z
  have X₃ : K.In (h₂.push (kxs_mw "ValueError.__init__" x)) := X₂.keeps k₃
  have hx₃ := k₃ _ _ hx₂
  have hm₃ : (h₂.push (kxs_mw "ValueError.__init__" x)).get? h₂.objs.size = some (kxs_mw "ValueError.__init__" x) := Heap.get?_push_at rfl rfl
  generalize (h₂.push (kxs_mw "ValueError.__init__" x)) = h₃ at k₃ X₃ hx₃ hm₃ ⊢
  show wpAny _ _ (callWith a5 (.ref h₂.objs.size) [] (backTo a5 (starEach [.Constant (.str txt) j a4] _)) []) _ _ _
  refine callWithK (i := "ValueError.__init__") (x := x) (spliced_cons (Calls.Constant_str (pos := a4) (k := j) (spliced_nil ⟨hm₃, ?_⟩)))
  -- ValueError.__init__ lays the args anew
  refine wpAny_call (codeAny_of_tree ?_)
  show wpAny _ _ (callAny (.ref h₂.objs.size) ⟨_, []⟩) _ _ _
  simp only [callAny]
  refine wpAny_bind (wpAny_load hm₃ ?_)
  simp only [kxs_mw, show (Value.type "method-wrapper" == Value.type "method" || Value.type "method-wrapper" == Value.type "builtin_function_or_method" || Value.type "method-wrapper" == Value.type "method-wrapper") = true by decide, if_true]
  refine KFB.if_so (by decide) ?_
  refine wpAny_bind (check_bound_init F.excBase_ValueError.toExcCallFacts (X₃ _ _ hC) hx₃ rfl ?_)
  refine wpAny_bind (wpAny_pure (wpAny_pure ?_))
  refine ⟨plainId_quiet F.excBase_ValueError.init.plain _, codeAny_builtin F.excBase_ValueError.initEntry ?_⟩
  refine exc_init_tree (cls := .ref C) (t0 := t0) (dv := none) (c2 := .none) (c3 := .none) (b4 := .bool false) hx₃ (by rw [sizeLine_eq]; exact (by decide : 1 ≤ 16777216)) (fun h₄ k₄ hx₄ _ => ?_)
  -- the value is dropped; self.F = F
  have k₁₄ : ∀ b o, b ≠ x → h₁.get? b = some o → h₄.get? b = some o := fun b o hb z => k₄ b o hb (k₃ _ _ (k₂ _ _ z))
  have X₄ : K.In h₄ := fun a o z => k₁₄ a o (fun e => by rw [e, hnx] at z; cases z) (X₁ a o z)
  have hxL : s.heap.objs.size ≠ x := Nat.ne_of_gt (Heap.lt_size hx)
  have hn₄ : h₄.Ns s.heap.objs.size (fun y => List.lookup y ([(("self" : Str), Value.ref x), (fn, v)].reverse)) := by
    obtain ⟨oL, es, ep, hL, r⟩ := hns
    exact ⟨oL, es, ep, k₁₄ _ _ hxL hL, r⟩
  have hsz : s.heap.objs.size < h₁.objs.size := hns.lt
  refine ks_wpAt_execs_cons (ks_wpAt_Assign_Attr (wpAt_of_wpAny ?_) (hsw2 _))
  refine ldK rfl hn₄ (v := v) (by simp [List.lookup]) ?_ rfl lk_fn hfd
  refine ldK rfl hn₄ (v := .ref x) (by simp [List.lookup, hsf]) ?_ rfl lk_self (by decide)
  refine set_plain X₄ (ox := excO C h₃.objs.size) (od := none) ⟨hx₄, rfl, rfl, trivial⟩ T.sa ?_
  refine exc_osa X₄ hx₄ hcl (show refsVE (.ref C :: bm) = true from hbm) rfl T.noN (fun h₅ tk₅ dx k₅ dn dne hx₅ hn₅ => ?_)
  refine wpAt_of_wpAny (wpAny_execs_nil (hq h₅ tk₅ dx _ ⟨fun b o hb z => k₅ b o hb (k₁₄ b o hb (k b o z)), hx₅, ?_, dne, hn₅⟩))
  have z : s.heap.objs.size < h₄.objs.size := hn₄.lt
  exact Nat.le_of_lt (Nat.lt_of_lt_of_le z dn)
/-- a made one -/
structure EMade (fn : Str) (h h' : Heap) (e C d : Addr) (v : Value) : Prop where
  keep : ∀ b o, h.get? b = some o → h'.get? b = some o
  new : h.objs.size ≤ e
  obj : ∃ oe vs, h'.get? e = some oe ∧ oe.cls = .ref C ∧ oe.dict = some d ∧ oe.data = .fields vs ∧ vs[1]? = some .none
  dbig : h.objs.size ≤ d
  dne : d ≠ e
  ns : h'.Ns1 d (fun y => if y = fn then some v else none)
theorem one_size (v : Value) : [v].length ≤ sizeLine := by
  rw [sizeLine_eq]
  exact (by decide : 1 ≤ 16777216)
/-- the field's name -/
structure FnOk (fn : Str) : Prop where
  ns : fn ≠ "self"
  fd : (fn == ("__debug__" : Str)) = false
  fs : (fn == ("super" : Str)) = false
  fc : (fn == ("__class__" : Str)) = false
theorem e_made (T : ETxt P K mg cn fn C fI) (N0 : FnOk fn) {v : Value} {mb : Str → Option Value} (X : K.In s.heap) (hg : s.heap.Ns mainGlobals mg) (hb : s.heap.Ns builtinsNs mb) (hbb : ∀ y : Str, y ≠ "__name__" → mb y = bootBuiltins y) (hlim : s.heap.NoLimit) (hroom : A.depth + 1 < recursionLimit)
    (hq : ∀ h' tk e d, EMade fn s.heap h' e C d v → R (.ok (.ret (.ref e))) { s with heap := h', toks := tk }) :
    codeAny (model P w) A (.call (.ref C) ⟨[v], []⟩) R s := by
  obtain ⟨nm, q, N, bs, bm, sn, sub, ab, col, dd, k0, k1, k2, k3, k5, hC, hbm⟩ := T.cls
  obtain ⟨hp, g, dr, tk, os⟩ := s
  have k : ∀ b o, hp.get? b = some o → ((hp.push (kdv_tup [v])).push (excO C hp.objs.size)).get? b = some o := fun b o e => Heap.get?_push_of_some _ (Heap.get?_push_of_some _ e)
  have hget : ((hp.push (kdv_tup [v])).push (excO C hp.objs.size)).get? (hp.objs.size + 1) = some (excO C hp.objs.size) := by heap_get
  have hnx : K.lookup (hp.objs.size + 1) = none := by
    cases e : K.lookup (hp.objs.size + 1) with
    | none => rfl
    | some o =>
      have z : hp.get? (hp.objs.size + 1) = some o := X _ _ e
      exact absurd (Nat.lt_of_succ_lt (Heap.lt_size z)) (Nat.lt_irrefl _)
  refine call_own F.excBase_ValueError (fun X => refsVE_contains X bm hbm) (X _ _ hC) (looks_findIn X T.iC) (fun self => bind_fn X self T.tC) (one_size v) ?_
  refine e_init (s := ⟨(hp.push (kdv_tup [v])).push (excO C hp.objs.size), g, dr, tk, os⟩) T N0.ns N0.fd N0.fs N0.fc (X.keeps k) (hg.keeps k) (hb.keeps k) hbb (hlim.keeps k) hget hnx ?_ fun h' tk' dx t1 ⟨k', hx, dn, dne, hns⟩ => ?_
  · show A.depth + 1 < recursionLimit
    exact hroom
  · have old : ∀ b o, hp.get? b = some o → h'.get? b = some o := fun b o e => k' b o (Nat.ne_of_lt (Nat.lt_succ_of_lt (Heap.lt_size e))) (k b o e)
    have z : hp.objs.size + 1 + 1 ≤ dx := by
      have q := dn
      rw [Heap.size_push, Heap.size_push] at q
      exact q
    exact ⟨rfl, hq h' tk' (hp.objs.size + 1) dx ⟨old, Nat.le_succ _, ⟨_, _, hx, rfl, rfl, rfl, rfl⟩, Nat.le_trans (Nat.le_trans (Nat.le_succ _) (Nat.le_succ _)) z, dne, hns⟩⟩
end
end ExS
end PySem
namespace Ov
open PySem PySem.Spec PyProof.Rows L2
theorem relO_one {fn : Str} {v : V} {v' : Value} (r : RelV v v') (f : Str) : RelO (List.lookup f [(fn, v)]) (if f = fn then some v' else none) := by
  by_cases hw : f = fn
  · subst hw
    rw [if_pos rfl, show List.lookup f [(f, v)] = some v by simp [List.lookup]]
    exact r
  · rw [if_neg hw, show List.lookup f [(fn, v)] = none by
      have qw : (f == fn) = false := by simpa using hw
      simp [List.lookup, qw]]
    trivial
section
variable {X : Cx} {C fI : Addr} {cn fn : Str}
/-- E(e), E an own error -/
def tMkE (C : Addr) (fn : Str) (ta : TA) : L2.St → Hp → XK → Prop := fun σ H Q => ta σ H fun vs H1 => ∃ v, vs = [v] ∧ ∀ d, H1 d = none → Q (.ref C) (some d) (upd H1 d (.xd [(fn, v)]))
theorem pmk_e {a : Expr} {ta : TA} {p pos : Pos} {k : Nat} (T : PySem.ExS.ETxt X.prog X.K X.mg cn fn C fI) (N0 : PySem.ExS.FnOk fn) (hr : Room k X.A) (ha : PA X [a] ta) (hg : Gl X cn) (hdb : (cn == ("__debug__" : Str)) = false)
    (he : starEach (a :: []) X.env = (false, eval a X.env) :: starEach [] X.env := by rfl) (hpl : (backTo pos (starEach [] X.env)).any (·.1) = false := by rfl) :
    PMk X (.Call (.Name cn p) [a] [] pos) (tMkE C fn ta) := by
  intro pins s σ H Q I h
  refine wpAny_Call_Name_kw (ld_glob I hg T.gC ?_ hdb)
  refine PySem.W.callWith_K (h₀ := X.base) I.ok.mod.kin T.kC (thn (ha.run pos pins s σ H _ I h) fun us s1 hh => ?_) he hpl
  obtain ⟨vs, H1, I1, r1, v, ev, q1⟩ := hh
  subst ev
  refine ⟨I1.kIn, ?_⟩
  cases r1 with
  | cons rv rn =>
    rename_i v' us'
    cases rn
    show wpAny _ _ (call (.ref C) [v']) _ _ _
    have hlim := I1.nolimit
    obtain ⟨mb, hb, hbb⟩ := I1.mod.blt
    have hgl := I1.mod.glob
    have kb := I1.bk
    obtain ⟨hp, g, dr, tk, os⟩ := s1
    refine wpAny_call (PySem.ExS.e_made T N0 I1.kIn (hgl.keeps kb) (hb.keeps kb) hbb hlim (by have := hr.dp; omega) fun h' tk' e d M => ?_)
    show MkP X pins σ Q (.ref e) ⟨h', g, dr, tk', os⟩
    obtain ⟨oe, fv, hoe, hc, hd, hdat, h1⟩ := M.obj
    have hns := M.ns
    obtain ⟨G', g1, g2⟩ := restrict h' fun b => decide (b ≠ e)
    have gk : ∀ b, b ≠ e → G'.get? b = h'.get? b := fun b hb => g1 b (decide_eq_true hb)
    have ge : G'.get? e = none := g2 e (by simp)
    have old : ∀ b o, hp.get? b = some o → G'.get? b = some o := fun b o q => (gk b (Nat.ne_of_lt (Nat.lt_of_lt_of_le (Heap.lt_size q) M.new))).trans (M.keep b o q)
    have ob : ObjOk X.prog X.w (upd H1 d (.xd [(fn, v)])) G' d (.xd [(fn, v)]) :=
      ⟨_, hns.at (fun o q => (gk d M.dne).trans q), fun f => relO_one rv f⟩
    have J : Inv X pins σ (upd H1 d (.xd [(fn, v)])) ⟨G', g, dr, tk', os⟩ := I1.laid (t' := tk') old M.dbig ob
    refine ⟨e, oe, fv, ⟨G', g, dr, tk', os⟩, _, .ref C, some d, rfl, J, fun b o q => ?_, ge, hoe, ⟨hc, hd⟩, hdat, h1, ?_, rfl, I1.bare, raises_own T.exC T.tyC, q1 d (I1.hok.fresh M.dbig)⟩
    · by_cases hb : b = e
      · have q' : G'.get? b = some o := q
        rw [hb, ge] at q'; cases q'
      · exact (gk b hb).symm.trans q
    · rw [upd_ne (Ne.symm M.dne)]
      exact I1.hok.fresh M.new
/-- raise E(e) -/
def tRaiseE (C : Addr) (fn : Str) (W : WX) (ta : TA) : TS := fun _ σ H => tMkE C fn ta σ H fun cls d H' => W cls d σ H'
theorem ps_raiseE {a : Expr} {ta : TA} {W : WX} {p pos pos2 : Pos} {k : Nat} (hc : X.calm = true) (T : PySem.ExS.ETxt X.prog X.K X.mg cn fn C fI) (N0 : PySem.ExS.FnOk fn) (hr : Room k X.A) (tk : Takes X W) (ha : PA X [a] ta) (hg : Gl X cn) (hdb : (cn == ("__debug__" : Str)) = false)
    (he : starEach (a :: []) X.env = (false, eval a X.env) :: starEach [] X.env := by rfl) (hpl : (backTo pos (starEach [] X.env)).any (·.1) = false := by rfl) :
    PS X (.Raise (some (.Call (.Name cn p) [a] [] pos)) none pos2) (tRaiseE C fn W ta) := ps_raise hc tk (pmk_e T N0 hr ha hg hdb he hpl)
/-- isinstance(e, c) and isinstance(e, (c1, c2, ..)), e the exception that the suite holds (at a; its class cls, its dict d) -/
def rIsX (K : PySem.W.Frag) (a : Addr) (cls : Value) (d : Option Addr) : List V → Hp → VK → Prop := fun xs H Q => ∃ (D dd : Addr) (fs : List (Str × V)), cls = .ref D ∧ d = some dd ∧ H dd = some (.xd fs) ∧ ExcC K D ∧
  ((∃ (c : V) (u : Value) (b : Bool), xs = [.ref a, c] ∧ ClsV c u ∧ PySem.W.kitOne K (.ref D) u = some b ∧ Q (.bl b) H) ∨
    ∃ (tp : Addr) (cs : List V) (us : List Value) (b : Bool), xs = [.ref a, .ref tp] ∧ H tp = some (.tup cs) ∧ Paired ClsV cs us ∧ PySem.W.kitAny K (.ref D) us = some b ∧ Q (.bl b) H)
theorem call_isX {a : Addr} {cls : Value} {d : Option Addr} {oe : Obj} {pn : List (Addr × Obj)} (hz : Zc cls d oe) (hf : ∃ vs, oe.data = .fields vs) : CallR (X.suite a ((a, oe) :: pn)) (.builtin "isinstance") (rIsX X.K a cls d) := by
  intro pins s σ H xs us Q I r h
  obtain ⟨D, dd, fs, rfl, rfl, hdd, C, h⟩ := h
  obtain ⟨ha, _⟩ := I.pin (a, oe) (List.mem_append_left _ List.mem_cons_self)
  obtain ⟨vs, hd⟩ := hf
  obtain ⟨mA, hns, _⟩ := (show ObjOk X.prog X.w H s.heap dd (.xd fs) from I.hok dd _ hdd)
  obtain ⟨od, ho, _⟩ := lookIn_ns hns
  have J : PySem.W.InstAt s.heap a oe D (some od) := ⟨ha, hz.1, by unfold PySem.W.notCls; rw [hd] <;> rfl, by rw [hz.2]; exact ho⟩
  have hcl : (PySem.W.clsIn X.K D).isSome = true := by
    have z := C.hd
    unfold PySem.W.hasDictIn at z
    obtain ⟨cd, hcd, _⟩ := PySem.W.any_some z
    rw [hcd]
    rfl
  have Z := PySem.W.kitx_exc (x := a) (ox := oe) (od := some od) hcl C.hg C.hk C.hs C.ha C.hn C.ht C.hm
  rcases h with ⟨c, u, b, rfl, hc, e, q⟩ | ⟨tp, cs, ws, b, rfl, hT, k, e, q⟩
  · obtain ⟨u1, u2, rfl, r1, r2⟩ := vals2 r
    have e1 : u1 = .ref a := r1
    subst e1
    have e2 := hc.eq r2
    subst e2
    exact PySem.W.kia_one Z I.kIn J e (fun z => nomatch z) fun tk => ⟨.bl b, H, I.tok tk, rfl, q⟩
  · obtain ⟨u1, u2, rfl, r1, r2⟩ := vals2 r
    have e1 : u1 = .ref a := r1
    subst e1
    cases (show u2 = Value.ref tp from r2)
    obtain ⟨_, its, rv, o, h1, h2, n, h3⟩ := (show ObjOk X.prog X.w H s.heap tp (.tup cs) from I.hok tp _ hT)
    have e3 := ClsV.all k rv
    subst e3
    obtain ⟨oc, od', dt, sl⟩ := o
    simp only at h2 h3
    subst h2 h3
    exact PySem.W.kia_tup Z I.kIn J h1 e (fun z => nomatch z) fun tk => ⟨.bl b, H, I.tok tk, rfl, q⟩
end
/-- a constant of the module -/
theorem pe_gs {X : Cx} {x : Str} {v : V} {pos : Pos} (hg : Gl X x) (hm : ∃ u, X.mg x = some u ∧ RelV v u) (hd : (x == ("__debug__" : Str)) = false := by decide) : PE X (.Name x pos) (tC v) := by
  obtain ⟨u, hm, r⟩ := hm
  exact pe_glob hg hm r hd
section
variable {X : Cx} {k : Nat} {x : Str} {ps : List Str} {sp : Sp} {p pos : Pos} {e : Expr} {es : List Expr} {t : TA}
/-- a def that may raise, called where what it raises is let out | caught -/
theorem pe_fnX {E : XK} (c : Cal X.prog X.w X.K X.mg X.base (L2.CX X.prog X.w) k x ps sp) (hr : Room k X.A) (hx : Passes (L2.CX X.prog X.w) X E) (hg : Gl X x) (ha : PA X (e :: es) t) (hdb : (x == ("__debug__" : Str)) = false := by decide)
    (he : starEach (e :: es) X.env = (false, eval e X.env) :: starEach es X.env := by rfl) (hpl : (backTo pos (starEach es X.env)).any (·.1) = false := by rfl) : PE X (.Call (.Name x p) (e :: es) [] pos) (tCall sp [] E t) := by
  obtain ⟨f, fd, F, m, kp, b⟩ := c
  exact pe_call F hr hg m kp b .nil hx ha hdb he hpl
theorem pe_fnS {W : WX} (c : Cal X.prog X.w X.K X.mg X.base (L2.CX X.prog X.w) k x ps sp) (hr : Room k X.A) (tk : Takes X W) (hg : Gl X x) (ha : PA X (e :: es) t) (hdb : (x == ("__debug__" : Str)) = false := by decide)
    (he : starEach (e :: es) X.env = (false, eval e X.env) :: starEach es X.env := by rfl) (hpl : (backTo pos (starEach es X.env)).any (·.1) = false := by rfl) : PE X (.Call (.Name x p) (e :: es) [] pos) (tCallS sp (WE W) t) := by
  obtain ⟨f, fd, F, m, kp, b⟩ := c
  exact pe_callS F hr hg m kp b (fun σ => passAt tk σ) ha hdb he hpl
end
end Ov

set_option Elab.async false
set_option linter.all false
set_option maxRecDepth 100000
/-! {**d, k: v} and {**d, **e}, at the library's level -/
namespace PySem
namespace Dst
open Sem (wp)
section
variable {prog : Program} {w : World} {K : Type} [DecidableEq K] {knd : KeyKind prog w K} {A : Around} {E : Value → Shared → Prop} {s : Shared}
theorem dictPut_pairs {d : Addr} {kvs : List (K × Value)} {k : K} {key v : Value} {Q : Unit → Shared → Prop} (hkey : knd.is k key = true) (hm : s.heap.DictOf knd d kvs)
    (hQ : ∀ h', h'.DictOf knd d (stored kvs k v) → Heap.SameBut d s.heap h' → Q () { s with heap := h' })
    (hsz : kvs.length ≤ sizeLine) : wpAny (model prog w) A (dictPut d (knd.hash k) key v) Q E s := by
  obtain ⟨o, es, ep, ho, hc, hd, hk, hp, hn⟩ := hm
  have hes : es.size ≤ sizeLine := by
    have e1 := hp.length
    have e2 : es.toList.length = es.size := by simp
    omega
  unfold dictPut
  refine wpAny_bind (wpAny_dictFind_of hkey ho hd hk ?_)
  have hidx : (es.findIdx? fun e => knd.is k e.key) = kvs.findIdx? fun kv => decide (kv.1 = k) := by
    rw [← hp.findIdx k]; obtain ⟨l⟩ := es; simp
  cases hi : es.findIdx? fun e => knd.is k e.key with
  | some i =>
    refine wpAny_updateDict ho hd (hQ _ ⟨_, _, ep, Heap.get?_update_self _ ho (Obj.isFreed_of_dict (Obj.data_mapDict hd _)), hc.mapDict _, Obj.data_mapDict hd _, hk.modify _ _, ?_, ?_⟩ (Heap.SameBut.update ..))
    · rw [stored, if_pos (any_of_findIdx_some (hidx ▸ hi))]
      have hl : (es.toList.findIdx? fun e => knd.is k e.key) = some i := by rw [← hi]; obtain ⟨l⟩ := es; simp
      have := hp.modify hn hl v
      obtain ⟨l⟩ := es
      simpa using this
    · rw [stored, if_pos (any_of_findIdx_some (hidx ▸ hi)), keys_map_store]; exact hn
  | none =>
    have hnot : k ∉ kvs.map (·.1) := not_mem_of_findIdx_none (hidx ▸ hi)
    have hany : ¬ (kvs.any fun kv => decide (kv.1 = k)) = true := by
      rw [List.any_eq_true]; rintro ⟨kv, hkv, he⟩
      exact hnot (List.mem_map.mpr ⟨kv, hkv, of_decide_eq_true he⟩)
    refine wpAny_updateDictKeys (hz := hes) ho hd (hQ _ ⟨_, _, ep + 1, Heap.get?_update_self _ ho (Obj.isFreed_of_dict (Obj.data_mapDictKeys hd _)), hc.mapDictKeys _, Obj.data_mapDictKeys hd _, hk.push hkey _, ?_, ?_⟩ (Heap.SameBut.update ..))
    · rw [stored, if_neg hany]
      have := hp.append hkey (knd.hash k) v
      obtain ⟨l⟩ := es
      simpa using this
    · rw [stored, if_neg hany, List.map_append, List.nodup_append]
      refine ⟨hn, by simp, ?_⟩
      intro a ha b hb
      simp only [List.map_cons, List.map_nil, List.mem_singleton] at hb
      subst hb
      exact fun e => hnot (e ▸ ha)

theorem merge_dict {d o : Addr} {kvs more : List (K × Value)} {Q : Unit → Shared → Prop} (hdo : d ≠ o) (hoS : (o == sysModules) = false)
    (hnr : ∀ k v, knd.is k v = true → ∀ a, v ≠ .ref a)
    (hd : s.heap.DictOf knd d kvs) (ho : s.heap.DictOf knd o more)
    (hQ : ∀ h', h'.DictOf knd d (merged kvs more) → Heap.SameBut d s.heap h' → Q () { s with heap := h' })
    (hsz : kvs.length + more.length ≤ sizeLine) : wpAny (model prog w) A (mergeMapping d (.ref o) false) Q E s := by
  obtain ⟨od, esd, epd, hod, hcd, hdd, hkd, hpd, hnd⟩ := id hd
  obtain ⟨oo, eso, epo, hoo, hco, hdo', hko, hpo, hno⟩ := id ho
  have hlen : more.length = eso.size := by rw [← hpo.length]; simp
  unfold mergeMapping
  refine wpAny_bind (wpAny_isInstance ho.typeIs isSubtype_dict_dict ?_)
  simp only [if_true]
  refine wpAny_bind (wpAny_specialOf ho.typeIs F.slot_dict_iter.lookup ?_)
  simp only [beq_self_eq_true]
  refine wpAny_bind (wpAny_pure ?_)
  simp only
  rw [if_neg (by rw [hoS]; exact Bool.false_ne_true)]
  refine wpAny_bind (wpAny_dictEntries hod hdd ?_)
  have loop : wpAny (model prog w) A (do
      let l ← dictEntries o
      let epoch ← dictEpoch o
      forIn (List.range l.size) PUnit.unit fun i (_ : PUnit) => (do
          let l' ← dictEntries o
          match l'[i]? with
            | some e => do
              holding [e.key, e.val]
                  (if false = true then do
                    let q ← dictFind d e.key e.hash
                    if q.isSome = true then do
                        rule "dict.merge.duplicate-key"
                        let x ← newExc (Value.type "KeyError") [e.key]
                        raiseNew x
                        dictPut d e.hash e.key e.val
                      else dictPut d e.hash e.key e.val
                  else dictPut d e.hash e.key e.val)
              let ep' ← dictEpoch o
              if (ep' != epoch) = true then do
                  (unsupported "dict.changed-during-merge" : Sem PUnit)
                  pure (ForInStep.yield PUnit.unit)
                else pure (ForInStep.yield PUnit.unit)
            | _ => do
              (unsupported "dict.changed-during-merge" : Sem PUnit)
              pure (ForInStep.yield PUnit.unit) : Sem (ForInStep PUnit))
      pure ()) Q E s := by
    refine wpAny_bind (wpAny_dictEntries hoo hdo' ?_)
    refine wpAny_bind (wpAny_dictEpoch hoo hdo' ?_)
    refine wpAny_bind ?_
    rw [List.range_eq_range']
    refine wpAny_forIn_list _
      (fun rest _ s' => ∃ h' i, s' = { s with heap := h' } ∧ rest = List.range' i (eso.size - i) ∧ i ≤ eso.size ∧ h'.DictOf knd d (merged kvs (more.take i)) ∧ h'.get? o = some oo ∧ Heap.SameBut d s.heap h')
      _ ?_ ?_ _ _ ⟨s.heap, 0, rfl, by simp, Nat.zero_le _, by simpa [merged] using hd, hoo, Heap.SameBut.refl _ _⟩
    · rintro x rest b s' ⟨h', i, rfl, hr, hi, hd', hoo', hs'⟩
      have hlt : i < eso.size := by
        rcases Nat.lt_or_ge i eso.size with h | h
        · exact h
        · rw [Nat.sub_eq_zero_of_le h] at hr; simp at hr
      obtain ⟨rfl, hrest⟩ : x = i ∧ rest = List.range' (i + 1) (eso.size - (i + 1)) := by
        have e : eso.size - i = (eso.size - (i + 1)) + 1 := by omega
        rw [e, List.range'_succ] at hr
        injection hr with h1 h2
        exact ⟨h1, h2⟩
      refine wpAny_bind (wpAny_dictEntries hoo' hdo' ?_)
      rw [Array.getElem?_eq_getElem hlt]
      obtain ⟨kv, hkv⟩ : ∃ kv, more[x]? = some kv := ⟨more[x]'(by rw [hlen]; exact hlt), List.getElem?_eq_getElem _⟩
      obtain ⟨k, v⟩ := kv
      obtain ⟨hkey, hval⟩ := hpo.get? (e := eso[x]) (by simp [hlt]) hkv
      obtain ⟨k', hkey', hhash⟩ := hko eso[x] (Array.getElem_mem hlt)
      obtain rfl : k' = k := knd.inj _ _ _ hkey' hkey
      show wpAny _ _ (holding [eso[x].key, eso[x].val] (if false = true then _ else dictPut d eso[x].hash eso[x].key eso[x].val) >>= _) _ _ _
      rw [if_neg Bool.false_ne_true, hhash, hval]
      have hmx : (merged kvs (more.take x)).length ≤ sizeLine := by
        have e1 := merged_length_le kvs (more.take x)
        have e2 : (more.take x).length ≤ more.length := by rw [List.length_take]; omega
        omega
      refine wpAny_bind (wpAny_holding (dictPut_pairs (hsz := hmx) hkey hd' fun h'' hd'' hs'' => ?_))
      have hoo'' : h''.get? o = some oo := (hs''.2 o (Ne.symm hdo)).trans hoo'
      refine wpAny_bind (wpAny_dictEpoch hoo'' hdo' ?_)
      rw [if_neg (by simp)]
      exact wpAny_pure ⟨h'', x + 1, rfl, hrest, hlt, by rw [merged_take_succ kvs more x (k', v) hkv]; exact hd'', hoo'', hs'.trans hs''⟩
    · rintro b s' ⟨h', i, rfl, hr, hi, hd', hoo', hs'⟩
      have hin : i = eso.size := by
        rcases Nat.lt_or_ge i eso.size with h | h
        · have e : eso.size - i = (eso.size - (i + 1)) + 1 := by omega
          rw [e, List.range'_succ] at hr; exact nomatch hr
        · exact Nat.le_antisymm hi h
      refine wpAny_pure (hQ h' ?_ hs')
      rw [hin, ← hlen, List.take_length] at hd'; exact hd'
  split
  · refine wpAny_bind (wpAny_dictEntries hoo hdo' ?_)
    refine wpAny_bind ?_
    rw [← Array.forIn_toList]
    refine wpAny_forIn_list _ (fun rest _ s' => s' = s ∧ ∀ e ∈ rest, e ∈ eso.toList) _ ?_ ?_ _ _ ⟨rfl, fun _ h => h⟩
    · rintro e rest b s' ⟨rfl, hm⟩
      obtain ⟨k, hkey, _⟩ := hko e (Array.mem_toList_iff.mp (hm e List.mem_cons_self))
      have hr := hnr k _ hkey
      split
      · rename_i a ha
        exact absurd ha (hr a)
      · exact wpAny_pure ⟨rfl, fun x hx => hm x (List.mem_cons_of_mem _ hx)⟩
    · rintro b s' ⟨rfl, _⟩
      exact loop
  · exact loop

theorem disp_kv {a k v : Sem Value} {Q : Value → Shared → Prop}
    (h : wpAny (model prog w) A a (fun m s1 => wpAny (model prog w) A (mergeMapping s.heap.objs.size m false) (fun _ s2 => wpAny (model prog w) A (subDict [(k, v)]) (fun sub s3 =>
      wpAny (model prog w) A (mergeMapping s.heap.objs.size (.ref sub) false) (fun _ s4 => Q (.ref s.heap.objs.size) s4) (fun _ _ => False) s3) E s2) (fun _ _ => False) s1) E
      { s with heap := s.heap.push { cls := .type "dict", data := .dict #[] } }) :
    wpAny (model prog w) A (dictDisplay [(none, a), (some k, v)]) Q E s := by
  unfold dictDisplay
  dsimp only
  rw [List.forIn_cons]
  refine wpAny_bind (wpAny_bind ?_)
  dsimp only
  rw [if_pos (by rfl)]
  refine wpAny_bind (wpAny_pure ?_)
  dsimp only
  refine wpAny_bind (wpAny_alloc ?_)
  refine wpAny_bind (wpAny_holding (wpAny_mono h (fun m s1 h1 => ?_) fun _ _ e => e))
  refine wpAny_bind (wpAny_onRaise (wpAny_tryCatch (wpAny_onRaise (wpAny_holding (wpAny_mono h1 (fun _ s2 h2 => ?_) fun _ _ e => e.elim)))))
  refine wpAny_pure ?_
  dsimp only
  rw [List.forIn_cons]
  refine wpAny_bind ?_
  dsimp only
  rw [if_neg (fun z => nomatch z)]
  refine wpAny_pure ?_
  dsimp only
  rw [List.forIn_nil]
  refine wpAny_pure ?_
  dsimp only
  refine wpAny_bind ?_
  rw [if_neg (fun z => nomatch z)]
  refine wpAny_bind (wpAny_holding (wpAny_mono h2 (fun sub s3 h3 => ?_) fun _ _ e => e))
  refine wpAny_bind (wpAny_onRaise (wpAny_holding (wpAny_mono h3 (fun _ s4 h4 => ?_) fun _ _ e => e.elim)))
  refine wpAny_pure ?_
  dsimp only
  exact wpAny_pure h4

theorem disp_dd {a b : Sem Value} {Q : Value → Shared → Prop}
    (h : wpAny (model prog w) A a (fun m s1 => wpAny (model prog w) A (mergeMapping s.heap.objs.size m false) (fun _ s2 => wpAny (model prog w) A b (fun m2 s3 =>
      wpAny (model prog w) A (mergeMapping s.heap.objs.size m2 false) (fun _ s4 => Q (.ref s.heap.objs.size) s4) (fun _ _ => False) s3) E s2) (fun _ _ => False) s1) E
      { s with heap := s.heap.push { cls := .type "dict", data := .dict #[] } }) :
    wpAny (model prog w) A (dictDisplay [(none, a), (none, b)]) Q E s := by
  unfold dictDisplay
  dsimp only
  rw [List.forIn_cons]
  refine wpAny_bind (wpAny_bind ?_)
  dsimp only
  rw [if_pos (by rfl)]
  refine wpAny_bind (wpAny_pure ?_)
  dsimp only
  refine wpAny_bind (wpAny_alloc ?_)
  refine wpAny_bind (wpAny_holding (wpAny_mono h (fun m s1 h1 => ?_) fun _ _ e => e))
  refine wpAny_bind (wpAny_onRaise (wpAny_tryCatch (wpAny_onRaise (wpAny_holding (wpAny_mono h1 (fun _ s2 h2 => ?_) fun _ _ e => e.elim)))))
  refine wpAny_pure ?_
  dsimp only
  rw [List.forIn_cons]
  refine wpAny_bind ?_
  dsimp only
  rw [if_pos (by rfl)]
  refine wpAny_bind (wpAny_pure ?_)
  dsimp only
  refine wpAny_bind (wpAny_pure ?_)
  refine wpAny_bind (wpAny_holding (wpAny_mono h2 (fun m2 s3 h3 => ?_) fun _ _ e => e))
  refine wpAny_bind (wpAny_onRaise (wpAny_tryCatch (wpAny_onRaise (wpAny_holding (wpAny_mono h3 (fun _ s4 h4 => ?_) fun _ _ e => e.elim)))))
  refine wpAny_pure ?_
  dsimp only
  rw [List.forIn_nil]
  refine wpAny_pure ?_
  dsimp only
  refine wpAny_bind ?_
  rw [if_pos (by rfl)]
  refine wpAny_pure ?_
  dsimp only
  exact wpAny_pure h4
end
end Dst
end PySem
namespace Ov
open PySem PySem.Spec PyProof.Rows L2
theorem kv_noref {P : Program} {w : World} : ∀ k v, (mixKind P w).is k v = true → ∀ a, v ≠ .ref a := fun k v h a e => by
  rw [e] at h
  rcases keyIs_shape h with ⟨i, t, _, q⟩ | ⟨x, t, _, q⟩ <;> cases q
theorem dictOf_nodup {P : Program} {w : World} {h : Heap} {d : Addr} {kvs : List (Key × Value)} (x : h.DictOf (mixKind P w) d kvs) : (kvs.map (·.1)).Nodup := let ⟨_, _, _, _, _, _, _, _, n⟩ := x; n
section
variable {X : Cx} {pos : Pos}
/-- a value of a display -/
theorem pe_val {e : Expr} {te : TE} (h : PE X e te) {pins : List (Addr × Obj)} {s : Shared} {σ : L2.St} {H : Hp} {Q : VK} (I : Inv X pins σ H s) (q : te σ H Q) :
    wpAny (model X.prog X.w) X.A (do let x ← eval e X.env; standAt pos; pure x) (EP X pins σ Q) X.xe s :=
  wpAny_bind (thn (h.run pins s σ H _ I q) fun u s1 z => wpAny_bind (wpAny_standAt (wpAny_pure z)))
/-- the source of ** -/
def DSrc (H : Hp) (x : V) (p : Addr) (kvs : List (Key × V)) : Prop := ∃ o, x = .ref o ∧ Rd H o (.dK kvs) ∧ o ≠ p
/-- {**d, k: v} -/
def tStarKV (td tk tv : TE) : TE := fun σ H Q => ∀ p, H p = none → td σ (upd H p (.dK [])) fun x H1 => ∃ kvs, DSrc H1 x p kvs ∧ H1 p = some (.dK []) ∧ kvs.length < sizeLine ∧
  ∀ q, upd H1 p (.dK kvs) q = none → tk σ (upd (upd H1 p (.dK kvs)) q (.dK [])) fun y H2 => tv σ H2 fun z H3 => ∃ k, y = kV k ∧ H3 p = some (.dK kvs) ∧ H3 q = some (.dK []) ∧ p ≠ q ∧
    Q (.ref p) (upd (upd H3 q (.dK [(k, z)])) p (.dK (putK kvs k z)))
theorem star_merge {pins : List (Addr × Obj)} {σ : L2.St} {H : Hp} {s : Shared} {x : V} {u : Value} {p : Addr} {kvs acc : List (Key × V)} {Q : Unit → Shared → Prop} {E : Value → Shared → Prop} (I : Inv X pins σ H s) (d : DSrc H x p kvs) (r : RelV x u) (hp : H p = some (.dK acc)) (hl : acc.length + kvs.length ≤ sizeLine)
    (h : ∀ s', Inv X pins σ (upd H p (.dK (mergeK acc kvs))) s' → Q () s') : wpAny (model X.prog X.w) X.A (mergeMapping p u false) Q E s := by
  obtain ⟨o, rfl, ho, hne⟩ := d
  obtain rfl : u = Value.ref o := r
  obtain ⟨z, hd, vs, rel, dd⟩ := dk_rd I.hok ho
  obtain ⟨zp, hdp, vp, relp, dp⟩ := dk_of I.hok hp
  refine PySem.Dst.merge_dict (Ne.symm hne) hd kv_noref dp dd (fun h' dd' hs => h { s with heap := h' } ?_) (by rw [← rel.length, ← relp.length]; exact hl)
  have he : ∃ q, h'.get? p = some q := let ⟨q, _, _, hq, _⟩ := dd'; ⟨q, hq⟩
  have hm : (mergeK acc kvs).length ≤ sizeLine := Nat.le_trans (length_mergeK kvs acc) hl
  exact d_write (t' := s.toks) I (by rw [hp]; exact True.intro) hs he (dk_new hm hdp (rel.merge relp) dd')
theorem mergeK_append : ∀ (more acc : List (Key × V)), ((acc ++ more).map (·.1)).Nodup → mergeK acc more = acc ++ more
  | [], acc, _ => (List.append_nil acc).symm
  | kv :: rest, acc, hn => by
    have hfresh : valV acc kv.1 = none := by
      cases q : valV acc kv.1 with
      | none => rfl
      | some x =>
        exfalso
        have a := valV_any kv.1 acc
        rw [q] at a
        obtain ⟨y, hy, he⟩ := List.any_eq_true.mp a
        rw [List.map_append, List.map_cons, List.nodup_append] at hn
        exact hn.2.2 y.1 (List.mem_map.mpr ⟨y, hy, rfl⟩) kv.1 List.mem_cons_self (of_decide_eq_true he)
    show mergeK (putK acc kv.1 kv.2) rest = _
    rw [putK_new _ hfresh, mergeK_append rest (acc ++ [(kv.1, kv.2)]) (by simpa using hn)]
    simp
theorem mergeK_nil {kvs : List (Key × V)} (hn : (kvs.map (·.1)).Nodup) : mergeK [] kvs = kvs := by
  simpa using mergeK_append kvs [] (by simpa using hn)
theorem rd_nodup {pins : List (Addr × Obj)} {σ : L2.St} {H : Hp} {s : Shared} {o : Addr} {kvs : List (Key × V)} (I : Inv X pins σ H s) (h : Rd H o (.dK kvs)) : (kvs.map (·.1)).Nodup := by
  obtain ⟨z, hd, vs, rel, dd⟩ := dk_rd I.hok h
  rw [rel.keys]
  exact dictOf_nodup dd
theorem pe_starKV {a k v : Expr} {td tk tv : TE} (ha : PE X a td) (hk : PE X k tk) (hv : PE X v tv) : PE X (.Dict [none, some k] [a, v] pos) (tStarKV td tk tv) := by
  refine ⟨fun pins s σ H Q I h => ?_⟩
  rw [arm_eval_Dict]
  refine wpAny_bind (wpAny_standAt ?_)
  show wpAny _ _ (dictDisplay [(none, do let x ← eval a X.env; standAt pos; pure x), (some (eval k X.env), do let x ← eval v X.env; standAt pos; pure x)]) _ _ _
  have hn := I.hok.fresh (Nat.le_refl s.heap.objs.size)
  have I1 := I.laid (a := s.heap.objs.size) (o := .dK []) (h' := s.heap.push { cls := .type "dict", data := .dict #[] }) (t' := s.toks) (fun _ _ q => Heap.get?_push_of_some _ q) (Nat.le_refl _) (dk_empty s.heap I.big)
  refine PySem.Dst.disp_kv (thn (pe_val ha I1 (h _ hn)) fun m s1 ⟨x, H1, I1', rx, kvs, hd, hp, hl, q1⟩ => ?_)
  refine star_merge I1' hd rx hp (by rw [List.length_nil]; omega) fun s2 I2 => ?_
  obtain ⟨o, rfl, ho, hne⟩ := id hd
  rw [mergeK_nil (rd_nodup I1' ho)] at I2
  have hn2 := I2.hok.fresh (Nat.le_refl s2.heap.objs.size)
  have I3 := I2.laid (a := s2.heap.objs.size) (o := .dK []) (h' := s2.heap.push { cls := .type "dict", data := .dict #[] }) (t' := s2.toks) (fun _ _ q => Heap.get?_push_of_some _ q) (Nat.le_refl _) (dk_empty s2.heap I2.big)
  refine PySem.wpAny_subDict (knd := mixKind X.prog X.w) (show 1 ≤ 15 by decide) ?_
  refine PySem.evalPairs_cons (thn (hk.run pins _ σ _ _ I3 (q1 _ hn2)) fun ku s3 ⟨y, H3, I3', ry, q3⟩ => thn (pe_val hv I3' q3) fun vu s4 ⟨z, H4, I4, rz, key, ek, hp4, hq4, hpq, q4⟩ => PySem.evalPairs_nil ?_)
  subst ek
  obtain ⟨zq, hdq, vq, relq, dq⟩ := dk_of I4.hok hq4
  cases relq
  refine ⟨[(key, vu)], ⟨kV_is ry, rfl, True.intro⟩, dq, fun h' dd' hs => ?_⟩
  have he : ∃ q, h'.get? s2.heap.objs.size = some q := let ⟨q, _, _, hq, _⟩ := dd'; ⟨q, hq⟩
  have I5 : Inv X pins σ (upd H4 s2.heap.objs.size (.dK [(key, z)])) { s4 with heap := h', toks := s4.toks + 1 } :=
    d_write I4 (by rw [hq4]; exact True.intro) hs he (dk_new (by rw [sizeLine_eq]; show 1 ≤ 16777216; decide) hdq (.cons ⟨rfl, rz⟩ .nil) dd')
  refine star_merge (kvs := [(key, z)]) (acc := kvs) I5 ⟨_, rfl, .inl upd_same, Ne.symm hpq⟩ rfl (by rw [upd_ne hpq]; exact hp4) (by show kvs.length + 1 ≤ _; omega) fun s6 I6 => ?_
  exact ⟨.ref s.heap.objs.size, _, I6, rfl, q4⟩
/-- {**d, **e} -/
def tStar2 (td te : TE) : TE := fun σ H Q => ∀ p, H p = none → td σ (upd H p (.dK [])) fun x H1 => ∃ kvs, DSrc H1 x p kvs ∧ H1 p = some (.dK []) ∧ kvs.length ≤ sizeLine ∧
  te σ (upd H1 p (.dK kvs)) fun y H2 => ∃ more, DSrc H2 y p more ∧ H2 p = some (.dK kvs) ∧ kvs.length + more.length ≤ sizeLine ∧ Q (.ref p) (upd H2 p (.dK (mergeK kvs more)))
theorem pe_star2 {a b : Expr} {td te : TE} (ha : PE X a td) (hb : PE X b te) : PE X (.Dict [none, none] [a, b] pos) (tStar2 td te) := by
  refine ⟨fun pins s σ H Q I h => ?_⟩
  rw [arm_eval_Dict]
  refine wpAny_bind (wpAny_standAt ?_)
  show wpAny _ _ (dictDisplay [(none, do let x ← eval a X.env; standAt pos; pure x), (none, do let x ← eval b X.env; standAt pos; pure x)]) _ _ _
  have hn := I.hok.fresh (Nat.le_refl s.heap.objs.size)
  have I1 := I.laid (a := s.heap.objs.size) (o := .dK []) (h' := s.heap.push { cls := .type "dict", data := .dict #[] }) (t' := s.toks) (fun _ _ q => Heap.get?_push_of_some _ q) (Nat.le_refl _) (dk_empty s.heap I.big)
  refine PySem.Dst.disp_dd (thn (pe_val ha I1 (h _ hn)) fun m s1 ⟨x, H1, I1', rx, kvs, hd, hp, hl, q1⟩ => ?_)
  refine star_merge I1' hd rx hp (by rw [List.length_nil]; omega) fun s2 I2 => ?_
  obtain ⟨o, rfl, ho, hne⟩ := id hd
  rw [mergeK_nil (rd_nodup I1' ho)] at I2
  refine thn (pe_val hb I2 q1) fun m2 s3 ⟨y, H2, I2', ry, more, hd2, hp2, hl2, q2⟩ => ?_
  refine star_merge I2' hd2 ry hp2 hl2 fun s4 I4 => ?_
  exact ⟨.ref s.heap.objs.size, _, I4, rfl, q2⟩
end
end Ov

set_option Elab.async false
set_option linter.all false
set_option maxRecDepth 100000
namespace Ov
open PySem PySem.Spec PyProof.Rows L2
/-! ### the program's own classes: their methods, called by name and by operators -/
/-- the method m of the class at C keeps sp -/
def MCal (P : Program) (w : World) (K : PySem.W.Frag) (mg : Str → Option Value) (base : Heap) (CX : CXT) (k : Nat) (C : Addr) (m : Str) (ps : List Str) (sp : Sp) : Prop :=
  ∃ (f : Addr) (fd : FuncData), FnOk P w K mg base CX k f fd ps sp ∧ Meth K C m f ∧ Binds K fd ps [] ∧ PySem.W.fnIn K f = true
/-- the method m of the class at C stands in the text -/
def MHas (K : PySem.W.Frag) (C : Addr) (m q : Str) (st : Stmt) (ps : List Str) : Prop :=
  ∃ (f : Addr) (fd : FuncData), Fun K m q st f fd ∧ Meth K C m f ∧ PySem.W.fnIn K f = true ∧ ∀ us : List Value, us.length = ps.length → bindArgs fd ⟨us, []⟩ = pure (ps.zip us)
section
variable {P : Program} {w : World} {K : PySem.W.Frag} {mg : Str → Option Value} {base : Heap} {CX : CXT} {C : Addr}
theorem MCal.mono {j k : Nat} {m : Str} {ps : List Str} {sp : Sp} (c : MCal P w K mg base CX j C m ps sp) (h : j ≤ k) : MCal P w K mg base CX k C m ps sp := by
  obtain ⟨f, fd, F, r⟩ := c
  exact ⟨f, fd, F.mono h, r⟩
theorem MHas.ok {m q : Str} {st : Stmt} {N ps : List Str} {k : Nat} {sp : Sp} (h : MHas K C m q st ps) (S : FnScope N ps (defScope st)) (len : ∀ vs H Q E, sp vs H Q E → vs.length = ps.length)
    (hbody : ∀ (f : Addr) (cdv : Value) (A : Around) (outer : List Env) (s : Shared) (H : Hp) (vs : List V) (Q : VK) (E : XK), Room k (A.deeper (envOfC q (defScope st) s.heap.objs.size f cdv)) → sp vs H Q E →
      ∃ t, PSs (cxOf CX0 P w K mg base N q (defScope st) f cdv A outer s H E).nox (defBody st) t ∧ t { nx := fun _ H' => Q .non H', rt := Q } (start N vs) H) : MCal P w K mg base CX0 (k + 1) C m ps sp := by
  obtain ⟨f, fd, F, M, i, b⟩ := h
  exact ⟨f, fd, F.ok S len (fun cdv A outer s H vs Q E hr h => hbody f cdv A outer s H vs Q E hr h), M, .all b, i⟩
theorem MHas.okX {m q : Str} {st : Stmt} {N ps : List Str} {k : Nat} {sp : Sp} (h : MHas K C m q st ps) (S : FnScope N ps (defScope st)) (len : ∀ vs H Q E, sp vs H Q E → vs.length = ps.length)
    (hbody : ∀ (f : Addr) (cdv : Value) (A : Around) (outer : List Env) (s : Shared) (H : Hp) (vs : List V) (Q : VK) (E : XK), Room k (A.deeper (envOfC q (defScope st) s.heap.objs.size f cdv)) → sp vs H Q E →
      ∃ t, PSs (cxOf (L2.CX P w) P w K mg base N q (defScope st) f cdv A outer s H E) (defBody st) t ∧ t { nx := fun _ H' => Q .non H', rt := Q } (start N vs) H) : MCal P w K mg base (L2.CX P w) (k + 1) C m ps sp := by
  obtain ⟨f, fd, F, M, i, b⟩ := h
  exact ⟨f, fd, F.okX S len (fun cdv A outer s H vs Q E hr h => hbody f cdv A outer s H vs Q E hr h), M, .all b, i⟩
end
section
variable {X : Cx} {CX : CXT} {k : Nat} {C : Addr} {m : Str} {ps : List Str} {sp : Sp} {E : XK} {p pos apos : Pos} {o e : Expr} {es : List Expr} {ta : TE} {t : TA}
/-- the callee runs, somewhere below -/
theorem run_at {A : Around} {f : Addr} {fd : FuncData} {pins : List (Addr × Obj)} {σ : L2.St} {H : Hp} {s : Shared} {Q : VK} {us : List Value} {vs : List V} (F : FnOk X.prog X.w X.K X.mg X.base CX k f fd ps sp) (hr : Room k A) (hf : A.frames = X.A.frames) (hb : Binds X.K fd ps []) (hx : Passes CX X E)
    (I : Inv X pins σ H s) (r : Vals vs us) (h : sp vs H Q E) : wpAny (model X.prog X.w) A (call (.ref f) us) (EP X pins σ Q) X.xe s := by
  have hl : us.length = ps.length := by rw [← r.length]; exact F.len _ _ _ _ h
  have e0 : Env0 X.prog X.w X.K X.mg X.base A X.stack s H := by
    have e := I.env0
    exact ⟨by rw [hf]; exact e.frames, e.mod, e.bs, e.bsz, e.funs, e.frf, e.hok, e.bare⟩
  refine wpAny_call (codeAny_mono (F.run A X.stack s H ⟨us, []⟩ us vs Q E hr e0 (by
    have := hb s us I.kIn (by simpa using hl)
    simpa using this) r h) fun r s' hq => ?_)
  cases r with
  | error e => exact hx pins σ H s e s' I hq
  | ok fl =>
    cases fl with
    | ret u => exact I.after hq
    | next => exact False.elim hq
    | brk => exact False.elim hq
    | cont => exact False.elim hq
theorem pe_mth {pl : Sem Bool} (he : PE X o ta) (c : Cls X.K C) (M : MCal X.prog X.w X.K X.mg X.base CX k C m ps sp) (hr : Room k X.A) (hx : Passes CX X E) (ha : PA X (e :: es) t)
    (hst : starEach (e :: es) X.env = (false, eval e X.env) :: starEach es X.env := by rfl) (hpl : (backTo pos (starEach es X.env)).any (·.1) = false := by rfl)
    (ht : eval (.Call (.Attribute o m apos) (e :: es) [] pos) X.env = (do
      let ov ← eval o X.env
      standAt apos.atName
      let (f, first) ← holding [ov] (getMethod ov m pl)
      callWith pos f first (backTo pos (starEach (e :: es) X.env)) (backToKw pos (keywordEach [] X.env))) := by rfl) :
    PE X (.Call (.Attribute o m apos) (e :: es) [] pos) (tMeth C m sp [] E ta t) := by
  obtain ⟨f, fd, F, hm, b, fi⟩ := M
  exact pe_meth he c hm F hr b .nil hx ha hst hpl ht
theorem pe_mth0 {pl : Sem Bool} (he : PE X o ta) (c : Cls X.K C) (M : MCal X.prog X.w X.K X.mg X.base CX k C m ps sp) (hr : Room k X.A) (hx : Passes CX X E)
    (ht : eval (.Call (.Attribute o m apos) [] [] pos) X.env = (do
      let ov ← eval o X.env
      standAt apos.atName
      let (f, first) ← holding [ov] (getMethod ov m pl)
      callWith pos f first (backTo pos (starEach [] X.env)) (backToKw pos (keywordEach [] X.env))) := by rfl) :
    PE X (.Call (.Attribute o m apos) [] [] pos) (tMeth C m sp [] E ta tNil) := by
  obtain ⟨f, fd, F, hm, b, fi⟩ := M
  exact pe_meth0 he c hm F hr b .nil hx ht
/-- C(..) -/
structure MkC (K : PySem.W.Frag) (mg : Str → Option Value) (x : Str) (C : Addr) : Prop where
  makes : PySem.W.makesIn K C = true
  kp : PySem.W.keepIn K (.ref C) = true
  gl : mg x = some (.ref C)
theorem pe_mk0 {x : Str} (M0 : MkC X.K X.mg x C) (M : MCal X.prog X.w X.K X.mg X.base CX k C "__init__" ps sp) (hr : Room (k + 1) X.A) (hx : Passes CX X E) (hg : Gl X x) (hdb : (x == ("__debug__" : Str)) = false := by decide) :
    PE X (.Call (.Name x p) [] [] pos) (tMake C sp [] E tNil) := by
  obtain ⟨f, fd, F, hm, b, fi⟩ := M
  exact pe_make0 ⟨M0.makes, hm.at_, hm.fn, M0.kp⟩ F hr hg M0.gl b .nil hx hdb
theorem pe_mk {x : Str} (M0 : MkC X.K X.mg x C) (M : MCal X.prog X.w X.K X.mg X.base CX k C "__init__" ps sp) (hr : Room (k + 1) X.A) (hx : Passes CX X E) (hg : Gl X x) (ha : PA X (e :: es) t) (hdb : (x == ("__debug__" : Str)) = false := by decide)
    (he : starEach (e :: es) X.env = (false, eval e X.env) :: starEach es X.env := by rfl) (hpl : (backTo pos (starEach es X.env)).any (·.1) = false := by rfl) :
    PE X (.Call (.Name x p) (e :: es) [] pos) (tMake C sp [] E t) := by
  obtain ⟨f, fd, F, hm, b, fi⟩ := M
  exact pe_make ⟨M0.makes, hm.at_, hm.fn, M0.kp⟩ F hr hg M0.gl b .nil hx ha hdb he hpl
/-! by operators -/
/-- o[i] = v -/
def rSetO (C : Addr) (sp : Sp) (E : XK) : TSet := fun o i v H Q => ∃ a dx fs, o = .ref a ∧ H a = some (.ins C dx fs) ∧ sp [.ref a, i, v] H (fun _ H' => Q H') E
theorem set_own (M : MCal X.prog X.w X.K X.mg X.base CX k C "__setitem__" ps sp) (hr : Room k X.A) (hq : PySem.W.noSeq X.K C = true) (hx : Passes CX X E) : PSet X (rSetO C sp E) := by
  intro pins s σ H o i v ov iv u Q I ro ri rv h
  obtain ⟨a, dx, fs, rfl, ha, h⟩ := h
  obtain rfl : ov = Value.ref a := ro
  obtain ⟨f, fd, F, hm, b, fi⟩ := M
  obtain ⟨mA, J, _⟩ := ins_get I.hok ha
  obtain ⟨od, J, _⟩ := J.look
  obtain ⟨mm, hF⟩ := I.fr
  refine PySem.W.ksp_setItem hF I.ok.mod.kin J hq hm.at_ hm.fn ?_
  refine wpAny_mono (run_at (vs := [.ref a, i, v]) F hr rfl b hx I (.cons rfl (.cons ri (.cons rv .nil))) h) (fun r s' z => ?_) fun _ _ x => x
  obtain ⟨_, H', I', _, q⟩ := z
  exact ⟨H', I', q⟩
/-- o[i] -/
def rIxO (C : Addr) (sp : Sp) (E : XK) : R2 := fun o i H Q => ∃ a dx fs, o = .ref a ∧ H a = some (.ins C dx fs) ∧ sp [.ref a, i] H Q E
theorem pe_ixO {a b : Expr} {ta tb : TE} (M : MCal X.prog X.w X.K X.mg X.base CX k C "__getitem__" ps sp) (hr : Room (k + 1) X.A) (hx : Passes CX X E) (ha : PE X a ta) (hb : PE X b tb)
    (hs : ∀ u v, subscripted b true u v = runValue (.builtin "lifetime.subscript" ⟨[u, v], []⟩) := by intro _ _; with_unfolding_all rfl) : PE X (.Subscript a b pos) (tOp (rIxO C sp E) ta tb) := by
  refine ⟨fun pins s σ H Q I h => ?_⟩
  refine Subscript_ (binT ha hb I h fun v u s2 x y H2 I2 rx ry q => ?_)
  obtain ⟨a, dx, fs, rfl, hi, h⟩ := q
  obtain rfl : v = Value.ref a := rx
  obtain ⟨f, fd, F, hm, b, fi⟩ := M
  obtain ⟨mA, J, _⟩ := ins_get I2.hok hi
  obtain ⟨od, J, _⟩ := J.look
  obtain ⟨mm, hF⟩ := I2.fr
  exact PySem.W.sub_K hF I2.ok.mod.kin J hm.at_ fi hm.fn (run_at (A := X.A.in1) (vs := [.ref a, y]) F hr.in1 rfl b hx I2 (.cons rfl (.cons ry .nil)) h) (hs _ _)
/-- x in o, x not in o -/
def rInO (C : Addr) (sp : Sp) (E : XK) (neg : Bool) : R2 := fun x o H Q => ∃ a dx fs, o = .ref a ∧ H a = some (.ins C dx fs) ∧ sp [.ref a, x] H (fun v H' => ∃ b, v = .bl b ∧ Q (.bl (if neg then !b else b)) H') E
theorem op_inO (M : MCal X.prog X.w X.K X.mg X.base CX k C "__contains__" ps sp) (hr : Room k X.A) (hx : Passes CX X E) : OpR X (compareOp .In) (rInO C sp E false) := by
  intro pins s σ H x o xv ov Q I rx ro h
  obtain ⟨a, dx, fs, rfl, ha, h⟩ := h
  obtain rfl : ov = Value.ref a := ro
  obtain ⟨f, fd, F, hm, b, fi⟩ := M
  obtain ⟨mA, J, _⟩ := ins_get I.hok ha
  obtain ⟨od, J, _⟩ := J.look
  obtain ⟨mm, hF⟩ := I.fr
  refine PySem.W.in_K hF I.ok.mod.kin J hm.at_ hm.fn ?_
  refine wpAny_mono (run_at (vs := [.ref a, x]) F hr rfl b hx I (.cons rfl (.cons rx .nil)) h) (fun r s' z => ?_) fun _ _ x => x
  obtain ⟨v, H', I', rv, b', rfl, q⟩ := z
  obtain rfl : r = Value.bool b' := rv
  exact wpAny_truthy_bool ⟨.bl b', H', I', rfl, q⟩
theorem op_notInO (M : MCal X.prog X.w X.K X.mg X.base CX k C "__contains__" ps sp) (hr : Room k X.A) (hx : Passes CX X E) : OpR X (compareOp .NotIn) (rInO C sp E true) := by
  intro pins s σ H x o xv ov Q I rx ro h
  obtain ⟨a, dx, fs, rfl, ha, h⟩ := h
  obtain rfl : ov = Value.ref a := ro
  obtain ⟨f, fd, F, hm, b, fi⟩ := M
  obtain ⟨mA, J, _⟩ := ins_get I.hok ha
  obtain ⟨od, J, _⟩ := J.look
  obtain ⟨mm, hF⟩ := I.fr
  refine PySem.W.notIn_K hF I.ok.mod.kin J hm.at_ hm.fn ?_
  refine wpAny_mono (run_at (vs := [.ref a, x]) F hr rfl b hx I (.cons rfl (.cons rx .nil)) h) (fun r s' z => ?_) fun _ _ x => x
  obtain ⟨v, H', I', rv, b', rfl, q⟩ := z
  obtain rfl : r = Value.bool b' := rv
  exact wpAny_truthy_bool ⟨.bl (!b'), H', I', rfl, q⟩
/-- len(o) -/
def cLenO (C : Addr) (sp : Sp) (E : XK) : List V → Hp → VK → Prop := fun xs H Q => ∃ a dx fs, xs = [.ref a] ∧ H a = some (.ins C dx fs) ∧ sp [.ref a] H (fun v H' => ∃ n : Nat, v = .int n ∧ n ≤ sizeLine ∧ Q (.int n) H') E
theorem call_lenO (M : MCal X.prog X.w X.K X.mg X.base CX k C "__len__" ps sp) (hr : Room (k + 1) X.A) (hx : Passes CX X E) : CallR X (.builtin "len") (cLenO C sp E) := by
  intro pins s σ H xs us Q I r h
  obtain ⟨a, dx, fs, rfl, ha, h⟩ := h
  cases r with
  | cons rv rn =>
    cases rn
    rename_i ov
    obtain rfl : ov = Value.ref a := rv
    obtain ⟨f, fd, F, hm, b, fi⟩ := M
    obtain ⟨mA, J, _⟩ := ins_get I.hok ha
    obtain ⟨od, J, _⟩ := J.look
    obtain ⟨mm, hF⟩ := I.fr
    refine PySem.W.len_K hF I.ok.mod.kin J hm.at_ hm.fn ?_
    refine wpAny_mono (run_at (A := X.A.in1) (vs := [.ref a]) F hr.in1 rfl b hx I (.cons rfl .nil) h) (fun r s' z => ?_) fun _ _ x => x
    obtain ⟨v, H', I', rv, n, rfl, hn, q⟩ := z
    obtain ⟨t, rfl⟩ := rv
    have z := hn
    rw [sizeLine_eq] at z
    exact ⟨by omega, ⟨.int n, H', I'.tok _, ⟨_, rfl⟩, q⟩⟩
/-- e.f, a property -/
structure Prp (P : Program) (w : World) (K : PySem.W.Frag) (mg : Str → Option Value) (base : Heap) (CX : CXT) (k : Nat) (C : Addr) (f : Str) (sp : Sp) : Prop where
  ex : ∃ (p g : Addr) (fd : FuncData) (ps : List Str), PropOf K C f p g ∧ FnOk P w K mg base CX k g fd ps sp ∧ Binds K fd ps []
theorem pe_prp {f : Str} (he : PE X e ta) (c : Cls X.K C) (p : Prp X.prog X.w X.K X.mg X.base CX k C f sp) (hr : Room (k + 1) X.A) (hx : Passes CX X.nox E) (hab : attributeBase e f X.env (eval e X.env) = eval e X.env := by rfl) : PE X (.Attribute e f pos) (tProp C sp [] E ta) := by
  obtain ⟨p, g, fd, ps, hp, F, b⟩ := p.ex
  exact pe_prop he c hp F hr b .nil hx hab
end
end Ov

set_option Elab.async false
set_option linter.all false
set_option maxRecDepth 100000
namespace Ov
open PySem PySem.Spec PyProof.Rows L2
/-! ### operators that meet dicts and empty tuples too -/
def oAddX (K : PySem.W.Frag) : R2 := fun x y H Q => oAdd K x y H Q ∨ rCatA K x y H Q
theorem op_oAddX {X : Cx} : OpR X (binaryOp .Add) (oAddX X.K) := OpR.or op_oAdd op_catA
def rInD (neg : Bool) : R2 := fun y x H Q => ∃ a o, x = .ref a ∧ DGet H a y o ∧ Q (.bl (if neg then !o.isSome else o.isSome)) H
theorem op_inD {X : Cx} (hu : X.A.units + 1 < cLine) : OpR X (compareOp .In) (rInD false) := by
  intro pins s σ H y x v u Q I ry rx h
  obtain ⟨a, o, rfl, g, q⟩ := h
  obtain rfl : u = Value.ref a := rx
  exact d_in hu I g ry fun s3 I3 => ⟨.bl o.isSome, H, I3, rfl, q⟩
theorem op_notInD {X : Cx} (hu : X.A.units + 1 < cLine) : OpR X (compareOp .NotIn) (rInD true) := by
  intro pins s σ H y x v u Q I ry rx h
  obtain ⟨a, o, rfl, g, q⟩ := h
  obtain rfl : u = Value.ref a := rx
  exact d_notIn hu I g ry fun s3 I3 => ⟨.bl (!o.isSome), H, I3, rfl, q⟩
def oInX (K : PySem.W.Frag) : R2 := fun x y H Q => oIn K x y H Q ∨ rInD false x y H Q
def oNotInX (K : PySem.W.Frag) : R2 := fun x y H Q => oNotIn K x y H Q ∨ rInD true x y H Q
theorem op_oInX {X : Cx} (hu : X.A.units + 65 < cLine) : OpR X (compareOp .In) (oInX X.K) := OpR.or (op_oIn hu) (op_inD (by omega))
theorem op_oNotInX {X : Cx} (hu : X.A.units + 65 < cLine) : OpR X (compareOp .NotIn) (oNotInX X.K) := OpR.or (op_oNotIn hu) (op_notInD (by omega))
def rIxD : R2 := fun x y H Q => ∃ a v, x = .ref a ∧ DGet H a y (some v) ∧ Q v H
theorem ix_dict {X : Cx} (hu : X.A.units + 1 < cLine) : IxR X rIxD := by
  intro value slice pins s σ H x y v u Q I rx ry h hs
  obtain ⟨a, w, rfl, g, q⟩ := h
  obtain rfl : v = Value.ref a := rx
  have hT := dict_typeIs I g
  unfold subscriptTail
  refine wpAny_bind ?_
  rw [getitemInPython_of_ne hT.not_modules]
  refine wpAny_bind (wpAny_specialOf hT PySem.F.slot_dict_getitem.lookup ?_)
  have fin : wpAny (model X.prog X.w) X.A (subscripted slice false (.ref a) u) (fun r s₃ => wpAny (model X.prog X.w) X.A (letTemporaryGo value (.ref a) r >>= fun _ => pure r) (EP X pins σ Q) X.xe s₃) X.xe s := by
    rw [hs]
    exact wpAny_operating (wpAny_mono (d_getItem (Q := EP X pins σ Q) hu I g ry fun w' s3 I3 rw' => ⟨w, H, I3, rw', q⟩) (fun r s₃ h₃ => wpAny_bind (wpAny_letTemporaryGo (wpAny_pure h₃))) fun _ _ x => x)
  first
    | exact wpAny_pure (wpAny_bind fin)
    | exact wpAny_bind (wpAny_pure (wpAny_bind fin))
    | exact wpAny_bind fin
theorem IxR.or {X : Cx} {r r' : R2} (a : IxR X r) (b : IxR X r') : IxR X (fun x y H Q => r x y H Q ∨ r' x y H Q) := by
  intro value slice pins s σ H x y v u Q I rx ry h hs
  rcases h with h | h
  · exact a value slice pins s σ H x y v u Q I rx ry h hs
  · exact b value slice pins s σ H x y v u Q I rx ry h hs
def oIxX (K : PySem.W.Frag) : R2 := fun x y H Q => oIx K x y H Q ∨ rIxD x y H Q
theorem ix_oIxX {X : Cx} (hu : X.A.units + 65 < cLine) : IxR X (oIxX X.K) := IxR.or ix_oIx (ix_dict (by omega))
theorem PSet.or {X : Cx} {r r' : TSet} (a : PSet X r) (b : PSet X r') : PSet X (fun o i v H Q => r o i v H Q ∨ r' o i v H Q) := by
  intro pins s σ H o i v ov iv u Q I ro ri rv h
  rcases h with h | h
  · exact a pins s σ H o i v ov iv u Q I ro ri rv h
  · exact b pins s σ H o i v ov iv u Q I ro ri rv h
def rSetX : TSet := fun o i v H Q => rSetL o i v H Q ∨ rSetD o i v H Q
theorem set_X {X : Cx} (hu : X.A.units + 65 < cLine) : PSet X rSetX := PSet.or set_list (set_dict (by omega))
theorem CallR.or {X : Cx} {f : Value} {r r' : List V → Hp → VK → Prop} (a : CallR X f r) (b : CallR X f r') : CallR X f (fun xs H Q => r xs H Q ∨ r' xs H Q) := by
  intro pins s σ H xs us Q I rx h
  rcases h with h | h
  · exact a pins s σ H xs us Q I rx h
  · exact b pins s σ H xs us Q I rx h
def cLenX (K : PySem.W.Frag) : List V → Hp → VK → Prop := fun xs H Q => cLen K xs H Q ∨ ∃ a kvs, xs = [.ref a] ∧ Rd H a (.dK kvs) ∧ Q (.int kvs.length) H
theorem call_cLenX {X : Cx} : CallR X (.builtin "len") (cLenX X.K) := by
  refine CallR.or call_cLen ?_
  intro pins s σ H xs us Q I rx h
  obtain ⟨a, kvs, rfl, e, q⟩ := h
  cases rx with
  | cons rv rn =>
    cases rn
    rename_i u
    obtain rfl : u = Value.ref a := rv
    exact d_len I e fun t s' I' => ⟨.int kvs.length, H, I', ⟨_, rfl⟩, q⟩
def cTupX (K : PySem.W.Frag) : List V → Hp → VK → Prop := fun xs H Q => ∃ p ys, xs = [.ref p] ∧ ((SqL K H p ys ∧ ∀ l, H l = none → Q (.ref l) (upd H l (.tup ys))) ∨ (SqT K H p ys ∧ Q (.ref p) H))
theorem call_cTupX {X : Cx} : CallR X (.type "tuple") (cTupX X.K) := call_tuple_of
def cSortD : List V → Hp → VK → Prop := fun xs H Q => ∃ (a : Addr) (kvs : List (Key × V)) (ks : List Str), xs = [.ref a] ∧ Rd H a (.dK kvs) ∧ kvs.map (·.1) = ks.map Sum.inr ∧ ks.length < 64 ∧
    ∀ ys p, ys.Perm ks → sortedS ys = true → H p = none → Q (.ref p) (upd H p (.lst (ys.map V.str)))
theorem call_cSortD {X : Cx} (hcalm : X.calm = true) : CallR X (.builtin "sorted") cSortD := call_sortedD hcalm
/-! ### fields, constants and properties of an object whose class is known -/
section
variable {X : Cx} {C : Addr} {f : Str} {pos pos' : Pos} {e o value : Expr} {ta tv : TE} {v : V}
def tFldC (C : Addr) (f : Str) (ta : TE) : TE := fun σ H Q => ta σ H fun x H1 => ∃ a dx fs v, x = .ref a ∧ H1 a = some (.ins C dx fs) ∧ fs.lookup f = some v ∧ Q v H1
theorem PE.of {e : Expr} {t u : TE} (h : PE X e t) (k : ∀ σ H Q, u σ H Q → t σ H Q) : PE X e u := ⟨fun pins s σ H Q I q => h.run pins s σ H Q I (k _ _ _ q)⟩
theorem PE.mono {e : Expr} {t : TE} (h : PE X e t) {pins : List (Addr × Obj)} {s : Shared} {σ : L2.St} {H : Hp} {Q Q' : VK} (I : Inv X pins σ H s) (q : t σ H Q) (k : ∀ x H1, Q x H1 → Q' x H1) : wpAny (model X.prog X.w) X.A (eval e X.env) (EP X pins σ Q') X.xe s :=
  thn (h.run pins s σ H Q I q) fun u s1 ⟨x, H1, I1, rx, z⟩ => ⟨x, H1, I1, rx, k _ _ z⟩
theorem pe_fldC (c : Cls X.K C) (n : NoAttr X.K C f) (he : PE X e ta) (hb : attributeBase e f X.env (eval e X.env) = eval e X.env := by rfl) : PE X (.Attribute e f pos) (tFldC C f ta) := by
  refine ⟨fun pins s σ H Q I h => ?_⟩
  refine attr_of hb (thn (he.run pins s σ H _ I h) fun u s1 ⟨x, H1, I1, rx, a, dx, fs, v, ex, ea, l, q⟩ => ?_)
  subst ex
  obtain rfl : u = Value.ref a := rx
  exact getattr_ok I1 ea c n l fun u' s2 I2 ru => ⟨v, H1, I2, ru, q⟩
def sFldC (C : Addr) (f : Str) (ta tv : TE) : TS := fun D σ H => tv σ H fun y H1 => ta σ H1 fun x H2 => ∃ a dx fs, x = .ref a ∧ H2 a = some (.ins C dx fs) ∧ fs.length < 1000 ∧ D.nx σ (upd H2 a (.ins C dx (putF f y fs)))
theorem ps_fldC (c : Cls X.K C) (n : NoAttr X.K C f) (ha : PE X o ta) (hv : PE X value tv) (hs : swapsWith value (some (.Attribute o f pos')) pos.line X.env = pure false := by rfl) : PS X (.Assign [.Attribute o f pos'] value pos) (sFldC C f ta tv) := by
  refine ⟨fun pins s σ H D I h => ?_⟩
  refine plainObj_wpAny_Assign_Attribute (thn (hv.run pins s σ H _ I h) fun u s1 ⟨y, H1, I1, ry, q⟩ => thn (ha.run pins s1 σ H1 _ I1 q) fun ov s2 ⟨x, H2, I2, rx, a, dx, fs, ex, ea, l, q2⟩ => ?_) hs
  subst ex
  obtain rfl : ov = Value.ref a := rx
  exact setattr_ok I2 ea c n l ry fun s3 I3 => ⟨σ, _, I3, q2⟩
theorem pe_cst {mc u : Value} (he : PE X e (tC (.ref C))) (r : ClX.CRead X.K C mc) (k : ClX.CVal X.K C mc f v u) (hb : attributeBase e f X.env (eval e X.env) = eval e X.env := by rfl) : PE X (.Attribute e f pos) (tC v) := by
  refine ⟨fun pins s σ H Q I h => ?_⟩
  refine attr_of hb (thn (he.run pins s σ H (fun x H1 => x = .ref C ∧ Q v H1) I ⟨rfl, h⟩) fun u s1 ⟨x, H1, I1, rx, ex, q⟩ => ?_)
  subst ex
  obtain rfl : u = Value.ref C := rx
  exact ClX.getcval_ok I1 r k fun s2 I2 => ⟨v, H1, I2, k.rel, q⟩
end
/-! ### the methods of objects, as they stand in the text -/
theorem fn_in {K : PySem.W.Frag} {f : Addr} {oc : Value} {od : Option Addr} {fd : FuncData} {osl : Array (Option Value)} (l : K.lookup f = some ⟨oc, od, .func fd, osl⟩) : PySem.W.fnIn K f = true := by
  unfold PySem.W.fnIn
  rw [l]
theorem mhas_mk {K : PySem.W.Frag} {C : Addr} {m q : Str} {st : Stmt} {ps : List Str} {f : Addr} {oc : Value} {od an : Option Addr} {osl : Array (Option Value)} {kV doc pm cdv ct : Value}
    (a : PySem.W.findIn K (.ref C) m = some (some (.ref f))) (ty : PySem.W.isFn K (.ref f) = true) (l : K.lookup f = some ⟨oc, od, .func (PySem.W.fnOf m q (defArgs st) (defBody st) (defScope st) .none kV doc pm an cdv ct), osl⟩)
    (c : PySem.W.codeIn K cdv q = true) (k : PySem.W.keepIn K (.ref f) = true)
    (hb : ∀ (kV doc pm : Value) (an : Option Addr) (cdv ct : Value) (us : List Value), us.length = ps.length → bindArgs (PySem.W.fnOf m q (defArgs st) (defBody st) (defScope st) .none kV doc pm an cdv ct) ⟨us, []⟩ = pure (ps.zip us)) : MHas K C m q st ps :=
  ⟨f, _, fun_mk l c k, ⟨a, ty, k⟩, fn_in l, hb kV doc pm an cdv ct⟩
/-- the getter of a property stands in the text -/
def PHas (K : PySem.W.Frag) (C : Addr) (m q : Str) (st : Stmt) (ps : List Str) : Prop :=
  ∃ (p g : Addr) (fd : FuncData), PropOf K C m p g ∧ Fun K m q st g fd ∧ ∀ us : List Value, us.length = ps.length → bindArgs fd ⟨us, []⟩ = pure (ps.zip us)
theorem phas_mk {K : PySem.W.Frag} {C : Addr} {m q : Str} {st : Stmt} {ps : List Str} {p g : Addr} {oc : Value} {od an : Option Addr} {osl : Array (Option Value)} {kV doc pm cdv ct : Value}
    (a : PropOf K C m p g) (l : K.lookup g = some ⟨oc, od, .func (PySem.W.fnOf m q (defArgs st) (defBody st) (defScope st) .none kV doc pm an cdv ct), osl⟩)
    (c : PySem.W.codeIn K cdv q = true) (k : PySem.W.keepIn K (.ref g) = true)
    (hb : ∀ (kV doc pm : Value) (an : Option Addr) (cdv ct : Value) (us : List Value), us.length = ps.length → bindArgs (PySem.W.fnOf m q (defArgs st) (defBody st) (defScope st) .none kV doc pm an cdv ct) ⟨us, []⟩ = pure (ps.zip us)) : PHas K C m q st ps :=
  ⟨p, g, _, a, fun_mk l c k, hb kV doc pm an cdv ct⟩
section
variable {P : Program} {w : World} {K : PySem.W.Frag} {mg : Str → Option Value} {base : Heap} {CX : CXT} {C : Addr}
theorem PHas.ok {m q : Str} {st : Stmt} {N ps : List Str} {k : Nat} {sp : Sp} (h : PHas K C m q st ps) (S : FnScope N ps (defScope st)) (len : ∀ vs H Q E, sp vs H Q E → vs.length = ps.length)
    (hbody : ∀ (f : Addr) (cdv : Value) (A : Around) (outer : List Env) (s : Shared) (H : Hp) (vs : List V) (Q : VK) (E : XK), Room k (A.deeper (envOfC q (defScope st) s.heap.objs.size f cdv)) → sp vs H Q E →
      ∃ t, PSs (cxOf CX0 P w K mg base N q (defScope st) f cdv A outer s H E).nox (defBody st) t ∧ t { nx := fun _ H' => Q .non H', rt := Q } (start N vs) H) : Prp P w K mg base CX0 (k + 1) C m sp := by
  obtain ⟨p, g, fd, hp, F, b⟩ := h
  exact ⟨p, g, fd, ps, hp, F.ok S len (fun cdv A outer s H vs Q E hr h => hbody g cdv A outer s H vs Q E hr h), .all b⟩
end
end Ov
namespace Ov
open PySem PySem.Spec PyProof.Rows L2
def oLtS : R2 := fun x y H Q => ∃ a b, x = .str a ∧ y = .str b ∧ Q (.bl (decide (a.cps.toList < b.cps.toList))) H
theorem op_oLtS {X : Cx} : OpR X (compareOp .Lt) oLtS := op_lt_str
theorem bi_sorted : bootBuiltins "sorted" = some (.builtin "sorted") := by decide +kernel
/-! steps for the readings of objects -/
section
variable {σ : L2.St} {H : Hp} {D : Ends} {te ta tb tv td tk : TE} {Q : VK} {C a dx p q : Addr} {f m : Str} {fs : List (Str × V)} {v x y : V} {sp : Sp} {E : XK} {al : TA} {K : PySem.W.Frag} {kvs : List (Key × V)} {k : Key}
theorem q_fldC (h : ta σ H fun x H1 => ∃ a dx fs v, x = .ref a ∧ H1 a = some (.ins C dx fs) ∧ fs.lookup f = some v ∧ Q v H1) : tFldC C f ta σ H Q := h
theorem q_sfldC (h : tv σ H fun y H1 => ta σ H1 fun x H2 => ∃ a dx fs, x = .ref a ∧ H2 a = some (.ins C dx fs) ∧ fs.length < 1000 ∧ D.nx σ (upd H2 a (.ins C dx (putF f y fs)))) : sFldC C f ta tv D σ H := h
theorem q_meth (h : ta σ H fun x H1 => ∃ a dx fs, x = .ref a ∧ H1 a = some (.ins C dx fs) ∧ fs.lookup m = none ∧ al σ H1 fun vs H2 => sp (x :: (vs ++ [])) H2 Q E) : tMeth C m sp [] E ta al σ H Q := h
theorem q_make (h : al σ H fun vs H1 => ∀ x dx, H1 x = none → H1 dx = none → dx ≠ x → sp (.ref x :: (vs ++ [])) (upd (upd H1 dx (.own x)) x (.ins C dx [])) (fun v H2 => v = .non ∧ Q (.ref x) H2) E) : tMake C sp [] E al σ H Q := h
theorem q_prp (h : ta σ H fun x H1 => ∃ a dx fs, x = .ref a ∧ H1 a = some (.ins C dx fs) ∧ sp (.ref a :: []) H1 Q E) : tProp C sp [] E ta σ H Q := h
theorem q_dnew (h : ∀ p, H p = none → Q (.ref p) (upd H p (.dK []))) : tDNewK σ H Q := h
theorem q_inK {kvs : List (Key × V)} (hp : H p = some (.dK kvs)) (h : Q (.bl (valV kvs k).isSome) H) : oInX K (kV k) (.ref p) H Q := .inr ⟨p, _, rfl, DGet.k hp, h⟩
theorem q_ixD {kvs : List (Key × V)} (hp : H p = some (.dK kvs)) (e : valV kvs k = some v) (h : Q v H) : oIxX K (.ref p) (kV k) H Q := .inr ⟨p, v, rfl, e ▸ DGet.k hp, h⟩
theorem q_ixX (h : oIx K x y H Q) : oIxX K x y H Q := .inl h
theorem q_addX (h : oAdd K x y H Q) : oAddX K x y H Q := .inl h
theorem q_lenX {xs : List V} (h : cLen K xs H Q) : cLenX K xs H Q := .inl h
theorem q_lenD (hp : H p = some (.dK kvs)) (h : Q (.int kvs.length) H) : cLenX K [.ref p] H Q := .inr ⟨p, kvs, rfl, .inl hp, h⟩
theorem q_setD {QH : Hp → Prop} (hp : H p = some (.dK kvs)) (hl : kvs.length < sizeLine) (h : QH (upd H p (.dK (putK kvs k v)))) : rSetX (.ref p) (kV k) v H QH := .inr ⟨p, _, rfl, DPut.k hp hl, h⟩
theorem q_tupL {xs : List V} (hp : H p = some (.lst xs)) (h : ∀ l, H l = none → Q (.ref l) (upd H l (.tup xs))) : cTupX K [.ref p] H Q := ⟨p, xs, rfl, .inl ⟨SqL.of hp, h⟩⟩
/-- t + (x,) of tuples -/
theorem q_snocT {xs : List V} {z : V} (hp : H p = some (.tup xs)) (hq : H q = some (.tup [z])) (hl : xs.length + 1 ≤ sizeLine) (h0 : xs = [] → Q (.ref q) H) (h : ∀ r, H r = none → Q (.ref r) (upd H r (.tup (xs ++ [z])))) : oAddX K (.ref p) (.ref q) H Q :=
  .inr ⟨p, q, xs, [z], rfl, rfl, SqT.of hp, SqT.of hq, hl, h0, (fun _ e => nomatch e), fun _ _ => h⟩
end
end Ov

set_option Elab.async false
set_option linter.all false
set_option maxRecDepth 100000
set_option maxHeartbeats 2000000
namespace Ov
open PySem PySem.Spec PyProof.Rows L2
/-! ### calls whose errors are let out, caught, or cannot be, by the caller's slots -/
theorem pAt0 {X : Cx} {σ : L2.St} {E : XK} : PassesAt CX0 X σ E := fun _ _ _ _ _ _ z => z.elim
theorem pAtN {X : Cx} {σ : L2.St} : PassesAt (L2.CX X.prog X.w) X σ E0 := fun _ _ _ _ _ _ z => by
  obtain ⟨_, _, _, _, _, _, _, _, _, _, _, _, f⟩ := z
  exact f.elim
theorem pAtP {X : Cx} {CX : CXT} {E : XK} {σ : L2.St} (h : Passes CX X E) : PassesAt CX X σ E := fun pins H s e s' I c => h pins σ H s e s' I c
section
variable {X : Cx} {CX : CXT} {k : Nat} {C : Addr} {ps : List Str} {sp : Sp} {A : Around} {f : Addr} {fd : FuncData} {pins : List (Addr × Obj)} {σ : L2.St} {H : Hp} {s : Shared} {Q : VK} {us : List Value} {vs : List V} {E : XK}
theorem env_at (I : Inv X pins σ H s) (hf : A.frames = X.A.frames) : Env0 X.prog X.w X.K X.mg X.base A X.stack s H := by
  have z := I.env0
  exact ⟨by rw [hf]; exact z.frames, z.mod, z.bs, z.bsz, z.funs, z.frf, z.hok, z.bare⟩
/-- the callee's code, somewhere below -/
theorem code_atS (F : FnOk X.prog X.w X.K X.mg X.base CX k f fd ps sp) (hr : Room k A) (hf : A.frames = X.A.frames) (hb : Binds X.K fd ps []) (hx : PassesAt CX X σ E) (I : Inv X pins σ H s) (r : Vals vs us) (h : sp vs H Q E) :
    codeAny (model X.prog X.w) A (.call (.ref f) ⟨us, []⟩) (fun r s' => match r with | .ok (.ret v) => EP X pins σ Q v s' | .ok _ => False | .error e => X.xe e s') s := by
  have hl : us.length = ps.length := by rw [← r.length]; exact F.len _ _ _ _ h
  have bd := hb s us I.kIn (by simpa using hl)
  refine codeAny_mono (F.run A X.stack s H ⟨us, []⟩ us vs Q E hr (env_at I hf) (by simpa using bd) r h) fun r s' z => ?_
  cases r with
  | error e => exact hx pins H s e s' I z
  | ok fl =>
    cases fl with
    | ret u => exact I.after z
    | next => exact z.elim
    | brk => exact z.elim
    | cont => exact z.elim
/-- a callee that raises nothing -/
theorem code_at0 (F : FnOk X.prog X.w X.K X.mg X.base CX0 k f fd ps sp) (hr : Room k A) (hf : A.frames = X.A.frames) (hb : Binds X.K fd ps []) (I : Inv X pins σ H s) (r : Vals vs us) (h : sp vs H Q E) :
    codeAny (model X.prog X.w) A (.call (.ref f) ⟨us, []⟩) (fun r s' => match r with | .ok (.ret v) => EP X pins σ Q v s' | _ => False) s := by
  have hl : us.length = ps.length := by rw [← r.length]; exact F.len _ _ _ _ h
  have bd := hb s us I.kIn (by simpa using hl)
  refine codeAny_mono (F.run A X.stack s H ⟨us, []⟩ us vs Q E hr (env_at I hf) (by simpa using bd) r h) fun r s' z => ?_
  cases r with
  | error e => exact z.elim
  | ok fl =>
    cases fl with
    | ret u => exact I.after z
    | next => exact z.elim
    | brk => exact z.elim
    | cont => exact z.elim
theorem run_atS (F : FnOk X.prog X.w X.K X.mg X.base CX k f fd ps sp) (hr : Room k A) (hf : A.frames = X.A.frames) (hb : Binds X.K fd ps []) (hx : PassesAt CX X σ E) (I : Inv X pins σ H s) (r : Vals vs us) (h : sp vs H Q E) :
    wpAny (model X.prog X.w) A (call (.ref f) us) (EP X pins σ Q) X.xe s := wpAny_call (code_atS F hr hf hb hx I r h)
theorem run_at0 {E1 : Value → Shared → Prop} (F : FnOk X.prog X.w X.K X.mg X.base CX0 k f fd ps sp) (hr : Room k A) (hf : A.frames = X.A.frames) (hb : Binds X.K fd ps []) (I : Inv X pins σ H s) (r : Vals vs us) (h : sp vs H Q E) :
    wpAny (model X.prog X.w) A (call (.ref f) us) (EP X pins σ Q) E1 s := wpAny_call (codeAny_mono (code_at0 F hr hf hb I r h) fun r s' z => by
  cases r with
  | error e => exact z.elim
  | ok fl =>
    cases fl with
    | ret u => exact z
    | next => exact z.elim
    | brk => exact z.elim
    | cont => exact z.elim)
theorem run_mkS (mk : PySem.W.makesIn X.K C = true) (M : MCal X.prog X.w X.K X.mg X.base CX k C "__init__" ps sp) (hr : Room (k + 1) X.A) (hx : PassesAt CX X σ E) (I : Inv X pins σ H s) (r : Vals vs us)
    (h : ∀ x dx, H x = none → H dx = none → dx ≠ x → sp (.ref x :: vs) (upd (upd H dx (.own x)) x (.ins C dx [])) (fun v H2 => v = .non ∧ Q (.ref x) H2) E) :
    wpAny (model X.prog X.w) X.A (call (.ref C) us) (EP X pins σ Q) X.xe s := by
  obtain ⟨f, fd, F, hm, b, fi⟩ := M
  have h0 := h (s.heap.objs.size + 1) s.heap.objs.size (I.hok.fresh (Nat.le_succ _)) (I.hok.fresh (Nat.le_refl _)) (Nat.ne_of_lt (Nat.lt_succ_self _))
  have J := Inv.made (C := C) I
  refine wpAny_call (make_map (f := f) I.kIn mk hm.at_ (beq_iff_eq.mp hm.fn) (codeAny_mono (code_atS (A := X.A.under (.builtin "type.__call__" ⟨.ref C :: us, []⟩)) F (hr.make C us [])
    (by rw [(J.env0.make C us []).frames, J.env0.frames]) b hx J (Paired.cons (show RelV (.ref (s.heap.objs.size + 1)) (Value.ref (s.heap.objs.size + 1)) from rfl) r) h0) fun r s' z => ?_))
  cases r with
  | error e => exact z
  | ok fl =>
    cases fl with
    | ret u =>
      obtain ⟨v, H', I3, rv, ev, q3⟩ := z
      subst ev
      exact ⟨rv, ⟨V.ref (s.heap.objs.size + 1), H', I3, rfl, q3⟩⟩
    | next => exact z.elim
    | brk => exact z.elim
    | cont => exact z.elim
end
/-- C(..), what it raises wished for at the slots -/
def tMakeS (C : Addr) (sp : Sp) (E : L2.St → XK) (t : TA) : TE := fun σ H Q => t σ H fun vs H1 => ∀ x dx, H1 x = none → H1 dx = none → dx ≠ x →
  sp (.ref x :: vs) (upd (upd H1 dx (.own x)) x (.ins C dx [])) (fun v H2 => v = .non ∧ Q (.ref x) H2) (E σ)
/-- x(..), x a name of the def that holds the class at C -/
def tMakeV (i : Nat) (C : Addr) (sp : Sp) (E : L2.St → XK) (t : TA) : TE := fun σ H Q => σ[i]? = some (some (.ref C)) ∧ tMakeS C sp E t σ H Q
def tMethS (C : Addr) (m : Str) (sp : Sp) (E : L2.St → XK) (ta : TE) (t : TA) : TE := fun σ H Q => ta σ H fun x H1 => ∃ a dx fs, x = .ref a ∧ H1 a = some (.ins C dx fs) ∧ fs.lookup m = none ∧ t σ H1 fun vs H2 => sp (x :: vs) H2 Q (E σ)
/-- C.m(..), m a classmethod -/
def tKMeth (C : Addr) (sp : Sp) (E : L2.St → XK) (ta : TE) (t : TA) : TE := fun σ H Q => ta σ H fun x H1 => x = .ref C ∧ t σ H1 fun vs H2 => sp (.ref C :: vs) H2 Q (E σ)
/-- the classmethod m of the class at C keeps sp -/
def KCal (P : Program) (w : World) (K : PySem.W.Frag) (mg : Str → Option Value) (base : Heap) (CX : CXT) (k : Nat) (C : Addr) (m : Str) (ps : List Str) (sp : Sp) : Prop :=
  ∃ (p g : Addr) (fd : FuncData), FnOk P w K mg base CX k g fd ps sp ∧ ClX.CMet K C (.type "type") m p g ∧ Binds K fd ps []
def KHas (K : PySem.W.Frag) (C : Addr) (m q : Str) (st : Stmt) (ps : List Str) : Prop :=
  ∃ (p g : Addr) (fd : FuncData), Fun K m q st g fd ∧ ClX.CMet K C (.type "type") m p g ∧ ∀ us : List Value, us.length = ps.length → bindArgs fd ⟨us, []⟩ = pure (ps.zip us)
section
variable {P : Program} {w : World} {K : PySem.W.Frag} {mg : Str → Option Value} {base : Heap} {C : Addr} {m q : Str} {st : Stmt} {N ps : List Str} {k : Nat} {sp : Sp}
theorem KHas.ok (h : KHas K C m q st ps) (S : FnScope N ps (defScope st)) (len : ∀ vs H Q E, sp vs H Q E → vs.length = ps.length)
    (hbody : ∀ (f : Addr) (cdv : Value) (A : Around) (outer : List Env) (s : Shared) (H : Hp) (vs : List V) (Q : VK) (E : XK), Room k (A.deeper (envOfC q (defScope st) s.heap.objs.size f cdv)) → sp vs H Q E →
      ∃ t, PSs (cxOf CX0 P w K mg base N q (defScope st) f cdv A outer s H E).nox (defBody st) t ∧ t { nx := fun _ H' => Q .non H', rt := Q } (start N vs) H) : KCal P w K mg base CX0 (k + 1) C m ps sp := by
  obtain ⟨p, g, fd, F, M, b⟩ := h
  exact ⟨p, g, fd, F.ok S len (fun cdv A outer s H vs Q E hr h => hbody g cdv A outer s H vs Q E hr h), M, .all b⟩
theorem KHas.okX (h : KHas K C m q st ps) (S : FnScope N ps (defScope st)) (len : ∀ vs H Q E, sp vs H Q E → vs.length = ps.length)
    (hbody : ∀ (f : Addr) (cdv : Value) (A : Around) (outer : List Env) (s : Shared) (H : Hp) (vs : List V) (Q : VK) (E : XK), Room k (A.deeper (envOfC q (defScope st) s.heap.objs.size f cdv)) → sp vs H Q E →
      ∃ t, PSs (cxOf (L2.CX P w) P w K mg base N q (defScope st) f cdv A outer s H E) (defBody st) t ∧ t { nx := fun _ H' => Q .non H', rt := Q } (start N vs) H) : KCal P w K mg base (L2.CX P w) (k + 1) C m ps sp := by
  obtain ⟨p, g, fd, F, M, b⟩ := h
  exact ⟨p, g, fd, F.okX S len (fun cdv A outer s H vs Q E hr h => hbody g cdv A outer s H vs Q E hr h), M, .all b⟩
end
section
variable {X : Cx} {CX : CXT} {k : Nat} {C : Addr} {m : Str} {ps : List Str} {sp : Sp} {E : L2.St → XK} {p pos apos : Pos} {o e : Expr} {es : List Expr} {ta : TE} {t : TA} {x : Str} {i : Nat}
theorem pe_mkS (M0 : MkC X.K X.mg x C) (M : MCal X.prog X.w X.K X.mg X.base CX k C "__init__" ps sp) (hr : Room (k + 1) X.A) (hx : ∀ σ, PassesAt CX X σ (E σ)) (hg : Gl X x) (ha : PA X (e :: es) t) (hdb : (x == ("__debug__" : Str)) = false := by decide)
    (he : starEach (e :: es) X.env = (false, eval e X.env) :: starEach es X.env := by rfl) (hpl : (backTo pos (starEach es X.env)).any (·.1) = false := by rfl) : PE X (.Call (.Name x p) (e :: es) [] pos) (tMakeS C sp E t) := by
  refine ⟨fun pins s σ H Q I h => wpAny_Call_Name_kw (ld_glob I hg M0.gl ?_ hdb)⟩
  exact PySem.W.callWith_K (h₀ := X.base) I.ok.mod.kin M0.kp (thn (ha.run pos pins s σ H _ I h) fun us s1 ⟨vs, H1, I1, r, z⟩ => ⟨I1.kIn, run_mkS M0.makes M hr (hx σ) I1 r z⟩) he hpl
theorem pe_mkS0 (M0 : MkC X.K X.mg x C) (M : MCal X.prog X.w X.K X.mg X.base CX k C "__init__" ps sp) (hr : Room (k + 1) X.A) (hx : ∀ σ, PassesAt CX X σ (E σ)) (hg : Gl X x) (hdb : (x == ("__debug__" : Str)) = false := by decide) :
    PE X (.Call (.Name x p) [] [] pos) (tMakeS C sp E tNil) := by
  refine ⟨fun pins s σ H Q I h => wpAny_Call_Name_kw (ld_glob I hg M0.gl ?_ hdb)⟩
  exact PySem.W.callWith_K0 I.kIn M0.kp (run_mkS (us := []) M0.makes M hr (hx σ) I .nil h)
theorem pe_mkV (mk : PySem.W.makesIn X.K C = true) (kp : PySem.W.keepIn X.K (.ref C) = true) (M : MCal X.prog X.w X.K X.mg X.base CX k C "__init__" ps sp) (hr : Room (k + 1) X.A) (hx : ∀ σ, PassesAt CX X σ (E σ)) (hN : X.N[i]? = some x) (hv : Vis X.env.scope x) (ha : PA X (e :: es) t)
    (hd : (x == ("__debug__" : Str)) = false := by decide) (hcd : (x == ("__classdict__" : Str)) = false := by decide)
    (he : starEach (e :: es) X.env = (false, eval e X.env) :: starEach es X.env := by rfl) (hpl : (backTo pos (starEach es X.env)).any (·.1) = false := by rfl) : PE X (.Call (.Name x p) (e :: es) [] pos) (tMakeV i C sp E t) := by
  refine ⟨fun pins s σ H Q I h => ?_⟩
  obtain ⟨hs, h⟩ := h
  refine wpAny_Call_Name_kw (thn ((pe_var (pos := p) (i := i) hN hv hd hcd).run pins s σ H (fun v H1 => v = .ref C ∧ H1 = H) I ⟨.ref C, hs, rfl, rfl⟩) fun u s1 ⟨v, H1, I1, r1, ev, eH⟩ => ?_)
  subst ev eH
  cases r1
  exact PySem.W.callWith_K (h₀ := X.base) I.ok.mod.kin kp (thn (ha.run pos pins s1 σ _ _ I1 h) fun us s2 ⟨vs, H2, I2, r, z⟩ => ⟨I2.kIn, run_mkS mk M hr (hx σ) I2 r z⟩) he hpl
theorem pe_mthS {pl : Sem Bool} (he : PE X o ta) (c : Cls X.K C) (M : MCal X.prog X.w X.K X.mg X.base CX k C m ps sp) (hr : Room k X.A) (hx : ∀ σ, PassesAt CX X σ (E σ)) (ha : PA X (e :: es) t)
    (hst : starEach (e :: es) X.env = (false, eval e X.env) :: starEach es X.env := by rfl) (hpl : (backTo pos (starEach es X.env)).any (·.1) = false := by rfl)
    (ht : eval (.Call (.Attribute o m apos) (e :: es) [] pos) X.env = (do
      let ov ← eval o X.env
      standAt apos.atName
      let (f, first) ← holding [ov] (getMethod ov m pl)
      callWith pos f first (backTo pos (starEach (e :: es) X.env)) (backToKw pos (keywordEach [] X.env))) := by rfl) :
    PE X (.Call (.Attribute o m apos) (e :: es) [] pos) (tMethS C m sp E ta t) := by
  obtain ⟨f, fd, F, hm, b, fi⟩ := M
  refine ⟨fun pins s σ H Q I h => PySem.W.methodCall_KW (pl := pl) (thn (he.run pins s σ H _ I h) fun u s1 ⟨x, H1, I1, rx, a, dx, fs, ex, ea, l, z⟩ => ?_) ht⟩
  subst ex
  obtain rfl : u = Value.ref a := rx
  refine getmeth_ok I1 ea c hm l (PySem.W.callWith_K (first := [.ref a]) (h₀ := X.base) I.ok.mod.kin hm.kp (thn (ha.run pos pins s1 σ H1 _ I1 z) fun us s2 ⟨vs, H2, I2, r, y⟩ => ⟨I2.kIn, ?_⟩) hst hpl)
  exact run_atS (us := .ref a :: us) (vs := .ref a :: vs) F hr rfl b (hx σ) I2 (.cons rfl r) y
theorem pe_mthS0 {pl : Sem Bool} (he : PE X o ta) (c : Cls X.K C) (M : MCal X.prog X.w X.K X.mg X.base CX k C m ps sp) (hr : Room k X.A) (hx : ∀ σ, PassesAt CX X σ (E σ))
    (ht : eval (.Call (.Attribute o m apos) [] [] pos) X.env = (do
      let ov ← eval o X.env
      standAt apos.atName
      let (f, first) ← holding [ov] (getMethod ov m pl)
      callWith pos f first (backTo pos (starEach [] X.env)) (backToKw pos (keywordEach [] X.env))) := by rfl) :
    PE X (.Call (.Attribute o m apos) [] [] pos) (tMethS C m sp E ta tNil) := by
  obtain ⟨f, fd, F, hm, b, fi⟩ := M
  refine ⟨fun pins s σ H Q I h => PySem.W.methodCall_KW (pl := pl) (thn (he.run pins s σ H _ I h) fun u s1 ⟨x, H1, I1, rx, a, dx, fs, ex, ea, l, z⟩ => ?_) ht⟩
  subst ex
  obtain rfl : u = Value.ref a := rx
  exact getmeth_ok I1 ea c hm l (PySem.W.callWith_K0 (first := [.ref a]) I1.kIn hm.kp (run_atS (us := [.ref a]) (vs := [.ref a]) F hr rfl b (hx σ) I1 (.cons rfl .nil) z))
theorem pe_kmS {pl : Sem Bool} (he : PE X o ta) (rd : ClX.CRead X.K C (.type "type")) (M : KCal X.prog X.w X.K X.mg X.base CX k C m ps sp) (hr : Room k X.A) (hx : ∀ σ, PassesAt CX X σ (E σ)) (ha : PA X (e :: es) t)
    (hst : starEach (e :: es) X.env = (false, eval e X.env) :: starEach es X.env := by rfl) (hpl : (backTo pos (starEach es X.env)).any (·.1) = false := by rfl)
    (ht : eval (.Call (.Attribute o m apos) (e :: es) [] pos) X.env = (do
      let ov ← eval o X.env
      standAt apos.atName
      let (f, first) ← holding [ov] (getMethod ov m pl)
      callWith pos f first (backTo pos (starEach (e :: es) X.env)) (backToKw pos (keywordEach [] X.env))) := by rfl) :
    PE X (.Call (.Attribute o m apos) (e :: es) [] pos) (tKMeth C sp E ta t) := by
  obtain ⟨p, g, fd, F, c, b⟩ := M
  refine ⟨fun pins s σ H Q I h => PySem.W.methodCall_KW (pl := pl) (thn (he.run pins s σ H _ I h) fun u s1 ⟨x, H1, I1, rx, ex, z⟩ => ?_) ht⟩
  subst ex
  obtain rfl : u = Value.ref C := rx
  refine ClX.getmethcm_ok I1 rd c fun s2 I2 => ?_
  refine ClX.callwith_cm I2 (ClX.base_none I1 (Nat.le_refl _)) c.fi (thn (ha.run pos _ s2 σ H1 _ I2 z) fun us s3 ⟨vs, H2, I3, rv, y⟩ => ⟨⟨ClX.pin_at I3, I3.kIn⟩, ?_⟩) hst hpl
  have fin := wpAny_call (PySem.W.method_call (ClX.pin_at I3) (code_atS (us := .ref C :: us) (vs := .ref C :: vs) F hr rfl b (hx σ) I3 (.cons rfl rv) y))
  exact thn fin fun _ _ y => ClX.unpinE y
end
end Ov

set_option Elab.async false
set_option linter.all false
set_option maxRecDepth 100000
set_option maxHeartbeats 2000000
/-! ### a tuple's iterator at its end -/
namespace OvT
open PySem
section
variable {prog : Program} {w : World} {A : Around} {E : Value → Shared → Prop} {s : Shared}
theorem next_end {z y : Addr} {n : Nat} {its : Array Value} {Q : Option Value → Shared → Prop} (calm : A.handled = none) (hz : s.heap.IsTupleIter z y n) (hy : s.heap.IsTuple y its) (none_ : its[n]? = none)
    (fin : ∀ h', Heap.ExtBut z s.heap h' → (∃ u, h'.get? z = some u) → Q none { s with heap := h' }) : wpAny (model prog w) A (pyNext (.ref z)) Q E s := by
  obtain ⟨oz, gz, cz, dz⟩ := id hz
  obtain ⟨oy, gy, _, ny, dy⟩ := hy
  unfold pyNext
  refine wpAny_bind (wpAny_attempt (wpAny_callSpecial?_slot (name := Str.ofString "__next__") hz.typeIs F.slot_tuple_iterator_next (wpAny_call_entry F.slot_tuple_iterator_next hz.typeIs F.entry_tuple_iterator_next ?_ (F.args_tuple_iterator_next_1 _))))
  show wpAny _ _ (field (.ref z) 0 >>= _) _ _ s
  refine wpAny_bind (wpAny_field gz dz (x := .ref y) rfl ?_)
  show wpAny _ _ (if (Value.ref y == Value.none) = true then _ else _) _ _ s
  rw [if_neg (show ¬ ((Value.ref y == Value.none) = true) from Bool.false_ne_true)]
  show wpAny _ _ (field (.ref z) 1 >>= _) _ _ s
  refine wpAny_bind (wpAny_field gz dz (x := .int n 0) rfl ?_)
  show wpAny _ _ (seqItems? (.ref y) >>= _) _ _ s
  refine wpAny_bind (wpAny_seqItems gy dy ?_)
  simp only [Int.toNat_natCast, none_]
  refine wpAny_bind (wpAny_rule (wpAny_bind (wpAny_setField gz dz (by simp) ?_)))
  show wpAny _ _ (newExc (.type "StopIteration") List.nil >>= _) _ _ _
  refine wpAny_bind ?_
  simp only [newExc, newTuple, raiseNew]
  refine wpAny_bind (wpAny_newObj_type ?_ (by size_fits))
  refine wpAny_bind (m := firstArgMember _ _) (wpAny_of_eq (a := Value.none) (by first | rfl | (simp only [firstArgMember] <;> rfl)) ?_)
  refine wpAny_newObj_type ?_ (by size_fits)
  refine wpAny_bind (wpAny_handled ?_)
  first | rw [show A.in1.handled = none from calm] | rw [calm]
  refine wpAny_bind (wpAny_pure (wpAny_throw ?_))
  refine wpAny_bind (wpAny_isInstance (T := "StopIteration") (b := true) ⟨_, Heap.get?_push_size _ rfl, rfl⟩ isSubtype_stop ?_)
  refine wpAny_pure (fin _ (((Heap.SameBut.update ..).extBut.push _).push _) ⟨_, Heap.get?_push_of_some _ (Heap.get?_push_of_some _ (Heap.get?_update_self _ gz (Obj.isFreed_of_fields (Obj.data_mapFields dz _))))⟩)
end
set_option maxHeartbeats 1000000 in
theorem meets_enumT (l : Addr) (items : Array Value) (n : Nat) (dct : Option Addr) (sl : Array (Option Value)) :
    Meets (Builtin.«enumerate.__new__» ⟨[.type "enumerate", .ref l], []⟩) (fun _ R s => s.heap.get? l = some { cls := .type "tuple", dict := dct, data := .seq items n, slots := sl } ∧
      R (.ok (.ret (.ref (s.heap.push { cls := .type "tuple_iterator", data := .fields #[.ref l, .int 0 0] }).objs.size)))
        { s with heap := (s.heap.push { cls := .type "tuple_iterator", data := .fields #[.ref l, .int 0 0] }).push { cls := .type "enumerate", data := .fields #[.none, .bool false, .ref s.heap.objs.size, rawInt 0, .none, .none] } }) :=
  .of_wp fun prog w A R s h => by
    obtain ⟨hp, g, d, tk, os⟩ := s
    obtain ⟨hl, h⟩ := h
    have hsub := sub_enumerate
    have hT : Heap.IsTuple (Shared.heap ⟨hp, g, d, tk, os⟩) l items := ⟨_, hl, rfl, n, rfl⟩
    wp_walk using AutoSeq1.wpAny_loadPart' hl
    refine wpAny_stack_any fun st => wpAny_pure ?_
    split
    · rename_i c _ _ _ _ _
      cases (c == Value.type "enumerate")
      · wp_walk using AutoSeq1.wpAny_loadPart' hl, wpAny_pyIter_tuple hT
        exact ⟨_, rfl, h⟩
      · wp_walk using AutoSeq1.wpAny_loadPart' hl, wpAny_pyIter_tuple hT
        exact ⟨_, rfl, h⟩
    · wp_walk using AutoSeq1.wpAny_loadPart' hl, wpAny_pyIter_tuple hT
      exact ⟨_, rfl, h⟩
section
variable {prog : Program} {w : World} {A : Around} {E : Value → Shared → Prop} {s : Shared}
theorem call_enumT {l : Addr} {items : Array Value} {Q : Value → Shared → Prop} (hL : s.heap.IsTuple l items)
    (h : ∀ h', IsEnum h' (s.heap.objs.size + 1) s.heap.objs.size 0 .none → h'.IsTupleIter s.heap.objs.size l 0 → (∀ b o, s.heap.get? b = some o → h'.get? b = some o) → Q (.ref (s.heap.objs.size + 1)) { s with heap := h' }) :
    wpAny (model prog w) A (call (.type "enumerate") [.ref l]) Q E s := by
  obtain ⟨⟨c, dct, dt, sl⟩, hl, hc, n, hd⟩ := hL
  dsimp only at hc hd
  subst hc hd
  refine callType_new F.called_enumerate (by decide) (F.typeCall_enumerate_1 _) (F.newCall_enumerate_1 _) (fun obj => F.args_object_init_2 obj _) F.entry_enumerate_new (meets_enumT l items n dct sl) ⟨hl, ?_⟩
  have hz : (s.heap.push { cls := .type "tuple_iterator", data := .fields #[.ref l, .int 0 0] }).objs.size = s.heap.objs.size + 1 := Heap.size_push ..
  show _ ∧ _
  rw [hz]
  have he := Heap.get?_push_size (s.heap.push { cls := .type "tuple_iterator", data := .fields #[.ref l, .int 0 0] }) (o := { cls := .type "enumerate", data := .fields #[.none, .bool false, .ref s.heap.objs.size, rawInt 0, .none, .none] }) rfl
  rw [hz] at he
  exact ⟨⟨_, he, rfl⟩, h _ he ⟨_, Heap.get?_push_of_some _ (Heap.get?_push_size _ rfl), rfl, rfl⟩ fun b o x => Heap.get?_push_of_some _ (Heap.get?_push_of_some _ x)⟩
end
end OvT
namespace Ov
open PySem PySem.Spec PyProof.Rows L2
/-! ### enumerate(tuple) -/
def IteT (K : PySem.W.Frag) (a : Addr) : It :=
  ⟨fun i H => ∃ (xs : List V) (x : V), SqT K H a xs ∧ xs[i]? = some x, fun i H v H' => ∃ T x, v = .ref T ∧ H T = none ∧ H' = upd H T (.tup [.int (i : Nat), x]) ∧ ∀ xs, SqT K H a xs → xs[i]? = some x, fun i H => ∃ xs : List V, SqT K H a xs ∧ xs.length = i⟩
theorem turn_enumT {P : Program} {w : World} {K : PySem.W.Frag} {elts : List Expr} {kk : Nat} {tpos : Pos} (a e it : Addr) :
    Turn P w K (.Tuple elts kk tpos) (IteT K a) [e, it] e (fun i h => (∃ old, IsEnum h e it ((i : Nat) : Int) old) ∧ h.IsTupleIter it a i ∧ e ≠ it) where
  mem := by simp
  obj := fun i h st b hb => by
    obtain ⟨⟨old, he⟩, ⟨o, ho, hc, hd⟩, _⟩ := st
    have z : b = e ∨ b = it := by simpa using hb
    rcases z with z | z
    · subst z
      exact ⟨_, he, fun v q => nomatch q⟩
    · subst z
      exact ⟨o, ho, fun v q => by rw [hd] at q; cases q⟩
  keep := fun i h h' st k => let ⟨⟨old, he⟩, hi, hne⟩ := st; ⟨⟨old, k e (by simp) _ he⟩, hi.at fun o q => k it (by simp) o q, hne⟩
  item := by
    intro X hP hw hK hc i pins s σ H E I hf st hg
    subst hP hw hK
    obtain ⟨⟨old, he⟩, hit, hne⟩ := st
    obtain ⟨xs, x, hq, hx⟩ := hg
    obtain ⟨its, rv, p, hz⟩ := I.tuple hq
    have pT : s.heap.IsTuple a its.toArray := p
    obtain ⟨u, hu, ru⟩ := rv.get hx
    have hel : e < s.heap.objs.size := Heap.lt_size he
    have hil : it < s.heap.objs.size := by obtain ⟨_, q, _⟩ := hit; exact Heap.lt_size q
    have ai : a ≠ it := fun z => by
      obtain ⟨o1, g1, c1, _⟩ := pT
      obtain ⟨o2, g2, c2, _⟩ := id hit
      rw [z, g2] at g1
      cases g1
      rw [c1] at c2
      exact absurd c2 (by decide)
    have ae : a ≠ e := fun z => by
      obtain ⟨o1, g1, c1, _⟩ := pT
      rw [z, show s.heap.get? e = _ from he] at g1
      cases g1
      exact absurd (show Value.type "enumerate" = Value.type "tuple" from c1) (by decide)
    have hlt : i < its.toArray.size := by
      have z := (List.getElem?_eq_some_iff.mp hu).1
      simpa using z
    refine wpAny_pyNext_enum_itemD (Draws.tuple (A := X.A.in1) (I.ok.hd hc) it a ai its.toArray) he ⟨hit, pT⟩ hlt hne (by simp; exact ⟨hne, fun z => ae z.symm⟩) fun x' h' tk hP' ho hit' hT hsz hk => ?_
    have ex : x' = u := by
      have z : its.toArray[i]? = some x' := hP'
      rw [List.getElem?_toArray, hu] at z
      exact (Option.some.inj z).symm
    subst ex
    refine ⟨_, rfl, wpAny_letOwnedTupleGo_enum (s := { s with heap := h', toks := tk + 1 }) ho fun h'' he' sb => ?_⟩
    have hT2 : h''.get? s.heap.objs.size = some { cls := .type "tuple", data := .seq #[.int i tk, x'] } := (sb.2 _ (Nat.ne_of_gt hel)).trans hT
    have new : ObjOk X.prog X.w (upd H s.heap.objs.size (.tup [.int (i : Nat), x])) h'' s.heap.objs.size (.tup [.int (i : Nat), x]) :=
      ⟨by show 2 ≤ sizeLine; decide, [.int i tk, x'], .cons ⟨_, rfl⟩ (.cons ru .nil), ⟨_, hT2, rfl, _, rfl⟩⟩
    have I1 : Inv X pins σ (upd H s.heap.objs.size (.tup [.int (i : Nat), x])) { s with heap := h'', toks := tk + 1 } :=
      I.turnedNew (ch := [e, it]) (fun b ob hb q => (sb.2 b (fun z => hb (by simp [z]))).trans (hk b ob (fun z => hb (by simp [z])) (fun z => hb (by simp [z])) q)) hf (Nat.le_refl _) new
    refine ⟨.ref s.heap.objs.size, _, I1, rfl, ⟨_, x, rfl, I.hok.fresh (Nat.le_refl _), rfl, fun ys hy => by rw [I.tuple_inj hy hq]; exact hx⟩, ⟨⟨x', ?_⟩, hit'.1.at fun o q => (sb.2 it (Ne.symm hne)).trans q, hne⟩, fun b hb => ?_⟩
    · rw [show ((i + 1 : Nat) : Int) = (i : Int) + 1 by omega]
      exact he'
    · have hb' : b < s.heap.objs.size := by
        have z : b = e ∨ b = it := by simpa using hb
        rcases z with z | z <;> rw [z] <;> assumption
      rw [upd_ne (Nat.ne_of_lt hb')]
      exact (hf b hb).1
  done := by
    intro X hP hw hK hc i pins s σ H E I hf st hg
    subst hP hw hK
    obtain ⟨⟨old, he⟩, hit, hne⟩ := st
    obtain ⟨xs, hq, hx⟩ := hg
    obtain ⟨its, rv, p, hz⟩ := I.tuple hq
    have pT : s.heap.IsTuple a its.toArray := p
    obtain ⟨f0, f1, f2, f3, f4, f5⟩ := hf it (by simp)
    have ai : a ≠ it := fun z => by
      obtain ⟨o1, g1, c1, _⟩ := pT
      obtain ⟨o2, g2, c2, _⟩ := id hit
      rw [z, g2] at g1
      cases g1
      rw [c1] at c2
      exact absurd c2 (by decide)
    have hn : its.toArray.size = i := by rw [List.size_toArray, ← rv.length]; exact hx
    subst hn
    exact wpAny_pyNext_enum_endD (Draws.tuple (A := X.A.in1) (I.ok.hd hc) it a ai its.toArray) he ⟨hit, pT⟩ fun h' eb => ⟨rfl, I.turned (t' := s.toks) (fun b o hb q => eb b o hb q) f0 f1 f3 f4 f5⟩
  self := fun A i s Q E st h => let ⟨⟨_, he⟩, _⟩ := st; wpAny_pyIter_enum he h
/-- enumerate(e), e a list or a tuple -/
def iEnumA (K : PySem.W.Frag) (ta : TA) : TI := fun σ H R => ta σ H fun vs H1 => ∃ a xs, vs = [.ref a] ∧ ((SqL K H1 a xs ∧ R (Ite K a) H1) ∨ (SqT K H1 a xs ∧ R (IteT K a) H1))
theorem pi_enumA {X : Cx} {e : Expr} {ta : TA} {p pos tpos : Pos} {elts : List Expr} {kk : Nat} (hg : Gl X "enumerate") (hm : X.mg "enumerate" = none) (ha : PA X [e] ta) (hs : starEach [e] X.env = [(false, eval e X.env)] := by rfl) :
    PI X (.Tuple elts kk tpos) (.Call (.Name "enumerate" p) [e] [] pos) (iEnumA X.K ta) := by
  refine ⟨fun pins s σ H R I h => Call_ (ld_blt I hg hm boot_enumerate (PyProof.Rows.callWith_type1 (thn (ha.run pos pins s σ H _ I h) fun us s1 ⟨vs, H1, I1, r1, q1⟩ => ?_) hs rfl))⟩
  obtain ⟨a, xs, ex, q⟩ := q1
  subst ex
  obtain ⟨u, rfl, ru⟩ := vals1 r1
  cases ru
  have le : ∀ b, b = s1.heap.objs.size + 1 ∨ b = s1.heap.objs.size → s1.heap.objs.size ≤ b := fun b z => by
    rcases z with z | z <;> omega
  rcases q with ⟨hq, q⟩ | ⟨hq, q⟩
  · obtain ⟨its, rv, p', hz⟩ := I1.list hq
    refine call_enumerate_list p'.isList fun h' he hit hsz hk => wpAny_pyIter_enum he ?_
    exact ⟨s1.heap.objs.size + 1, [s1.heap.objs.size + 1, s1.heap.objs.size], _, _, H1, rfl, I1.kept (t' := s1.toks) hk, turn_enum a (s1.heap.objs.size + 1) s1.heap.objs.size, ⟨⟨.none, he⟩, hit, Nat.succ_ne_self _⟩,
      fun b hb => I1.fpOk (le b (by simpa using hb)) (I1.hok.fresh (le b (by simpa using hb))), q⟩
  · obtain ⟨its, rv, p', hz⟩ := I1.tuple hq
    refine OvT.call_enumT (show s1.heap.IsTuple a its.toArray from p') fun h' he hit hk => wpAny_pyIter_enum he ?_
    exact ⟨s1.heap.objs.size + 1, [s1.heap.objs.size + 1, s1.heap.objs.size], _, _, H1, rfl, I1.kept (t' := s1.toks) hk, turn_enumT a (s1.heap.objs.size + 1) s1.heap.objs.size, ⟨⟨.none, he⟩, hit, Nat.succ_ne_self _⟩,
      fun b hb => I1.fpOk (le b (by simpa using hb)) (I1.hok.fresh (le b (by simpa using hb))), q⟩
theorem walk_enumT {K : PySem.W.Frag} {a : Addr} {xs : List V} : Walk (IteT K a) xs.length (fun H => SqT K H a xs) (YPair (fun i => some (.int (i : Nat))) (fun i => xs[i]?)) := by
  refine ⟨fun i _ hi q => ⟨xs, xs[i], q, by simp [hi]⟩, fun _ q => ⟨xs, q, rfl⟩, fun i H v H' _ q y => ?_⟩
  obtain ⟨T, x, h1, h2, h3, h4⟩ := y
  exact ⟨T, .int (i : Nat), x, h1, h2, h3, rfl, h4 xs q⟩
/-! ### iter(tuple) -/
def TItO (y z : Addr) (i : Nat) : HO := .ext fun h => h.IsTupleIter z y i
def TEnd (z : Addr) : HO := .ext fun h => ∃ o, h.get? z = some o
theorem tit_ok {P : Program} {w : World} {H : Hp} {h : Heap} {y z : Addr} {i : Nat} (e : h.IsTupleIter z y i) : ObjOk P w H h z (TItO y z i) := ⟨e, (let ⟨o, g, _⟩ := e; ⟨o, g⟩), fun h1 h2 q k => q.at k⟩
theorem tend_ok {P : Program} {w : World} {H : Hp} {h : Heap} {z : Addr} (e : ∃ o, h.get? z = some o) : ObjOk P w H h z (TEnd z) := ⟨e, e, fun h1 h2 ⟨o, g⟩ k => ⟨o, k o g⟩⟩
def rIterT (K : PySem.W.Frag) : List V → Hp → VK → Prop := fun xs H Q => ∃ (y : Addr) (zs : List V), xs = [.ref y] ∧ SqT K H y zs ∧ ∀ z, H z = none → Q (.ref z) (upd H z (TItO y z 0))
theorem call_iterT {X : Cx} : CallR X (.builtin "iter") (rIterT X.K) := by
  intro pins s σ H xs us Q I r h
  obtain ⟨y, zs, rfl, hq, q⟩ := h
  obtain ⟨u, rfl, ru⟩ := vals1 r
  cases ru
  obtain ⟨its, rv, pt, hz⟩ := I.tuple hq
  have fin : wpAny (model X.prog X.w) X.A.in1 (pyIter (.ref y)) (fun v s' => EP X pins σ Q v s') X.xe s := by
    refine wpAny_pyIter_tuple (show s.heap.IsTuple y its.toArray from pt) ?_
    exact ⟨.ref s.heap.objs.size, _, I.laid (t' := s.toks) (fun b u e => Heap.get?_push_of_some _ e) (Nat.le_refl _) (tit_ok ⟨_, Heap.get?_push_size _ rfl, rfl, rfl⟩), rfl, q _ (I.hok.fresh (Nat.le_refl _))⟩
  refine Calls.call_function_entry (by decide +kernel) (by decide +kernel) PySem.W.kdk_entry_iter (PySem.W.kdk_args_iter _) ?_
  unfold Builtin.«iter»
  refine wpAny_bind (m := someArgs "iter" 1 2 _) (wpAny_of_eq (a := [Value.ref y]) (by first | rfl | kernel_rfl!) ?_)
  show wpAny _ _ (pyIter (.ref y) >>= _) _ _ _
  exact wpAny_bind (wpAny_mono fin (fun v s' z => wpAny_pure ⟨_, rfl, z⟩) fun _ _ z => z)
theorem bi_iter : bootBuiltins "iter" = some (.builtin "iter") := by decide +kernel
section
variable {X : Cx} {pins : List (Addr × Obj)} {σ : L2.St} {H : Hp} {s : Shared} {y z : Addr} {i : Nat} {xs : List V} {A : Around} {E : Value → Shared → Prop} {Q : Option Value → Shared → Prop}
theorem tit_item {v : V} (I : Inv X pins σ H s) (ez : H z = some (TItO y z i)) (ey : SqT X.K H y xs) (hx : xs[i]? = some v) (hQ : ∀ u s', RelV v u → Inv X pins σ (upd H z (TItO y z (i + 1))) s' → Q (some u) s') :
    wpAny (model X.prog X.w) A (pyNext (.ref z)) Q E s := by
  have hz := (I.hok z _ ez).1
  obtain ⟨its, rv, pt, _⟩ := I.tuple ey
  obtain ⟨u, hu, ru⟩ := rv.get hx
  have mu : Mut (H z) := by rw [ez]; exact True.intro
  refine wpAny_pyNext_tuple_item hz (show s.heap.IsTuple y its.toArray from pt) (x := u) (by simpa using hu) fun h' e' sb => hQ u _ ru ?_
  exact I.write (x := z) (e := z) (t' := s.toks) mu (.inl rfl) (fun b o nb g => (sb.2 b nb).trans g) (let ⟨o, g, _⟩ := e'; ⟨o, g⟩) (tit_ok e')
theorem tit_end (calm : A.handled = none) (I : Inv X pins σ H s) (ez : H z = some (TItO y z i)) (ey : SqT X.K H y xs) (hx : xs[i]? = none) (hQ : ∀ s', Inv X pins σ (upd H z (TEnd z)) s' → Q none s') :
    wpAny (model X.prog X.w) A (pyNext (.ref z)) Q E s := by
  have hz := (I.hok z _ ez).1
  obtain ⟨its, rv, pt, _⟩ := I.tuple ey
  have mu : Mut (H z) := by rw [ez]; exact True.intro
  refine OvT.next_end calm hz (show s.heap.IsTuple y its.toArray from pt) (by rw [List.getElem?_toArray]; exact rv.none_of hx) fun h' eb ge => hQ _ ?_
  exact I.write (x := z) (e := z) (t' := s.toks) mu (.inl rfl) (fun b o nb g => eb b o nb g) ge (tend_ok ge)
theorem sqT_ne {K : PySem.W.Frag} {H H' : Hp} {a : Addr} {xs : List V} (h : SqT K H a xs) (e : H' a = H a) : SqT K H' a xs := by
  unfold SqT Rd at h ⊢
  rw [e]
  exact h
theorem it_apart (I : Inv X pins σ H s) (ez : H z = some (TItO y z i)) (ey : SqT X.K H y xs) : y ≠ z := fun e => by
  subst e
  obtain ⟨o1, g1, c1, _⟩ := (I.hok y _ ez).1
  obtain ⟨its, rv, ⟨o2, g2, c2, _⟩, _⟩ := I.tuple ey
  rw [g1] at g2
  cases g2
  rw [c1] at c2
  exact absurd c2 (by decide)
theorem tup_lst {q : Addr} {ys : List V} (I : Inv X pins σ H s) (ey : SqT X.K H y xs) (eq_ : H q = some (.lst ys)) : y ≠ q := fun e => by
  subst e
  obtain ⟨_, its1, n1, _, g1⟩ := I.hok y _ eq_
  obtain ⟨its, rv, ⟨o2, g2, c2, _⟩, _⟩ := I.tuple ey
  rw [g1] at g2
  cases g2
  exact absurd (show Value.type "list" = Value.type "tuple" from c2) (by decide)
/-- the rest of a tuple's iterator is put into a list -/
theorem ext_tup {q : Addr} {Rs : Result → Shared → Prop} {A1 : Around} (calm : A1.handled = none) (nq : q ≠ z) (hxs : xs.length < sizeLine) :
    ∀ (n i : Nat) (H : Hp) (s : Shared), n = xs.length - i → i ≤ xs.length → Inv X pins σ H s → H z = some (TItO y z i) → SqT X.K H y xs → H q = some (.lst (xs.take i)) →
      (∀ H' s', (∀ b, b ≠ z → b ≠ q → H' b = H b) → H' z = some (TEnd z) → H' q = some (.lst xs) → Inv X pins σ H' s' → Rs (.ok (.ret .none)) s') →
      codeAny (model X.prog X.w) A1 (.builtin "list.extend.loop" ⟨[.ref q, .ref z, .none], []⟩) Rs s := by
  intro n
  induction n with
  | zero =>
    intro i H s hn hi I ez ey eq_ fin
    have e : i = xs.length := by omega
    subst e
    refine codeAny_builtin PySem.F.entry_extend_loop ?_
    rw [Around.under_plainId PySem.F.plain_extend_loop _]
    show wpAny _ A1.in1 (pyNext (.ref z) >>= _) _ _ s
    refine wpAny_bind (tit_end (A := A1.in1) calm I ez ey (by simp) fun s' I' => ?_)
    refine wpAny_pure (fin (upd H z (TEnd z)) s' (fun b h1 h2 => upd_ne h1) upd_same ?_ I')
    rw [upd_ne nq, eq_, List.take_length]
  | succ n ih =>
    intro i H s hn hi I ez ey eq_ fin
    have hlt : i < xs.length := by omega
    refine codeAny_builtin PySem.F.entry_extend_loop ?_
    rw [Around.under_plainId PySem.F.plain_extend_loop _]
    show wpAny _ A1.in1 (pyNext (.ref z) >>= _) _ _ s
    have yz := it_apart I ez ey
    refine wpAny_bind (tit_item (A := A1.in1) I ez ey (List.getElem?_eq_getElem hlt) fun u s' ru I' => ?_)
    have eq1 : upd H z (TItO y z (i + 1)) q = some (.lst (xs.take i)) := by rw [upd_ne nq]; exact eq_
    obtain ⟨w1, its, k, r2, hl, e⟩ := I'.lstM eq1
    show wpAny _ A1.in1 (updateSeq q (·.push u) >>= _) _ _ _
    have lt := List.length_take_le i xs
    have l2 : (xs.take i).length = i := by rw [List.length_take]; omega
    refine wpAny_bind (wpAny_updateSeq e rfl (wpAny_pure ⟨plainId_quiet PySem.F.plain_extend_loop _, ?_⟩) (by rw [List.size_toArray]; omega) (by show (its.toArray.push u).size ≤ sizeLine + 1; rw [Array.size_push, List.size_toArray]; omega))
    have tk : xs.take (i + 1) = xs.take i ++ [xs[i]] := by rw [List.take_succ, List.getElem?_eq_getElem hlt]; rfl
    have I2 := I'.lset (f := (·.push u)) (its' := its ++ [u]) (ys := xs.take (i + 1)) (t' := s'.toks) eq1 e (by simp) (by rw [tk]; exact r2.append (.cons ru .nil)) (by rw [List.length_take]; omega)
    have yq : y ≠ q := tup_lst I ey eq_
    refine ih (i + 1) _ _ (by omega) hlt I2 ?_ ?_ upd_same ?_
    · rw [upd_ne (Ne.symm nq), upd_same]
    · exact sqT_ne ey (by rw [upd_ne yq, upd_ne yz])
    · intro H' s'' h1 h2 h3 I3
      exact fin H' s'' (fun b nb nb' => by rw [h1 b nb nb', upd_ne nb', upd_ne nb]) h2 h3 I3
end
/-! ### list(o), o an own object whose __iter__ gives a tuple's iterator -/
section
variable {X : Cx} {pins : List (Addr × Obj)} {σ : L2.St} {C : Addr} {k : Nat} {psI psL : List Str} {spI spL : Sp}
/-- what is said of the length: the own __len__ -/
theorem hint_own {A : Around} {a dx : Addr} {fs : List (Str × V)} {H : Hp} {s : Shared} {EL : XK} {Q : Bool → Shared → Prop} {E1 : Value → Shared → Prop} (ML : MCal X.prog X.w X.K X.mg X.base CX0 k C "__len__" psL spL) (hr : Room (k + 1) A) (hf : A.frames = X.A.frames) (I : Inv X pins σ H s)
    (ea : H a = some (.ins C dx fs)) (h : spL [.ref a] H (fun v H' => ∃ n : Nat, v = .int n ∧ n ≤ sizeLine ∧ H' = H) EL) (hQ : ∀ b s', Inv X pins σ H s' → Q b s') : wpAny (model X.prog X.w) A (Builtin.List.listLengthHint (.ref a)) Q E1 s := by
  obtain ⟨f, fd, F, hm, b, fi⟩ := ML
  obtain ⟨mA, J, _⟩ := ins_get I.hok ea
  obtain ⟨od, J, _⟩ := J.look
  obtain ⟨mm, hF⟩ := I.fr
  unfold Builtin.List.listLengthHint
  refine wpAny_bind (wpAny_bind (J.type.here ((PySem.W.looks_findIn I.kIn hm.at_).here ?_)))
  refine PySem.W.KFB.if_not rfl ?_
  refine PySem.W.KFB.if_so rfl ?_
  refine wpAny_bind (wpAny_rule ?_)
  refine wpAny_bind (wpAny_attempt ?_)
  refine PySem.W.len_K hF I.ok.mod.kin J hm.at_ hm.fn ?_
  refine wpAny_mono (run_at0 (A := A.in1) (vs := [.ref a]) F hr.in1 hf b I (.cons rfl .nil) h) (fun r s' z => ?_) fun _ _ x => x
  obtain ⟨v, H', I', rv, n, rfl, hn, eH⟩ := z
  subst eH
  obtain ⟨t, rfl⟩ := rv
  have z := hn
  rw [sizeLine_eq] at z
  refine ⟨by omega, ?_⟩
  show wpAny _ _ _ _ _ _
  refine wpAny_bind (wpAny_pure ?_)
  refine PySem.W.KFB.if_not (by show decide (((n : Int)).toNat > sizeLine) = false; simpa using hn) ?_
  exact wpAny_pure (hQ _ _ (I'.tok _))
/-- list(o): the list at q is new, o's __iter__ runs, the iterator is walked to its end and forgotten -/
def rListO (K : PySem.W.Frag) (C : Addr) (spI spL : Sp) : List V → Hp → VK → Prop := fun xs H Q => ∃ a dx fs, xs = [.ref a] ∧ H a = some (.ins C dx fs) ∧ ∀ q, H q = none →
  spI [.ref a] (upd H q (.lst [])) (fun v H1 => ∃ z y zs, v = .ref z ∧ H1 z = some (TItO y z 0) ∧ SqT K H1 y zs ∧ zs.length < sizeLine ∧ H1 q = some (.lst []) ∧ (∃ dx fs, H1 a = some (.ins C dx fs)) ∧
    spL [.ref a] H1 (fun v H' => ∃ n : Nat, v = .int n ∧ n ≤ sizeLine ∧ H' = H1) E0 ∧ Q (.ref q) (upd (ItX.dropH H1 z) q (.lst zs))) E0
theorem call_listO (MI : MCal X.prog X.w X.K X.mg X.base CX0 k C "__iter__" psI spI) (ML : MCal X.prog X.w X.K X.mg X.base CX0 k C "__len__" psL spL) (hr : Room (k + 3) X.A) : CallR X (.type "list") (rListO X.K C spI spL) := by
  intro pins s σ H xs us Q I rv h
  obtain ⟨a, dx, fs, rfl, ha, hq⟩ := h
  obtain ⟨u, rfl, ru⟩ := vals1 rv
  cases ru
  have r1 : Room (k + 2) X.A.in1 := hr.in1
  have r2 : Room (k + 1) X.A.in1.in1 := r1.in1
  have r3 : Room k X.A.in1.in1 := r2.mono (Nat.le_succ k)
  refine callType_codes (Q₁ := fun obj s₁ => obj = .ref s.heap.objs.size ∧ s₁ = { s with heap := s.heap.push { cls := .type "list", data := .seq #[] } }) PySem.F.called_list (PySem.F.typeCall_list_1 _) PySem.F.entry_list_init (code_list_new _ ⟨rfl, rfl⟩) fun obj s₁ h₁ => ?_
  obtain ⟨rfl, rfl⟩ := h₁
  have hS : (s.heap.push { cls := .type "list", data := .seq #[] }).get? s.heap.objs.size = some { cls := .type "list", data := .seq #[] } := Heap.get?_push_size _ rfl
  refine ⟨⟨_, hS, rfl⟩, PySem.F.args_list_init_2 _ _, ?_⟩
  have fr : H s.heap.objs.size = none := I.hok.fresh (Nat.le_refl _)
  have hsp := hq _ fr
  have I1 : Inv X pins σ (upd H s.heap.objs.size (.lst [])) { s with heap := s.heap.push { cls := .type "list", data := .seq #[] } } := I.lnew (its := []) (t' := s.toks) .nil (Nat.zero_le _)
  show wpAny _ _ (do let old ← Builtin.List.listItems (.ref s.heap.objs.size); Builtin.List.listUpdate (.ref s.heap.objs.size) (fun _ => #[]); letGo old.toList.reverse; Builtin.List.listExtendWith (.ref s.heap.objs.size) (.ref a) .none) _ _ _
  refine wpAny_bind ?_
  unfold Builtin.List.listItems
  refine wpAny_bind (wpAny_seqItems hS rfl (wpAny_pure ?_))
  show wpAny _ _ (updateSeq s.heap.objs.size (fun _ => #[]) >>= fun _ => letGo (#[] : Array Value).toList.reverse >>= fun _ => Builtin.List.listExtendWith (.ref s.heap.objs.size) (.ref a) .none) _ _ _
  refine wpAny_bind (wpAny_updateSeq hS rfl ?_)
  have I2 := I1.lset (f := fun _ => #[]) (its := []) (its' := []) (ys := []) (t' := s.toks) upd_same hS rfl .nil (Nat.zero_le _)
  rw [upd_upd] at I2
  refine wpAny_bind (wpAny_letGo ?_)
  have ha2 : upd H s.heap.objs.size (.lst []) a = some (.ins C dx fs) := by rw [upd_ne (ne_of_none ha fr)]; exact ha
  generalize s.heap.objs.size = q at *
  have hne : q ≠ a := ne_of (upd_same (H := H) (o := .lst [])) ha2 (fun z => nomatch z)
  obtain ⟨fI, fdI, FI, hmI, bI, fiI⟩ := MI
  obtain ⟨mA, J, _⟩ := ins_get I2.hok ha2
  obtain ⟨od, J, _⟩ := J.look
  obtain ⟨m0, hF⟩ := I2.fr
  unfold Builtin.List.listExtendWith
  refine wpAny_bind (J.type.here ?_)
  have h1 : Builtin.List.listSameRef (.ref q) (.ref a) = false := by simp [Builtin.List.listSameRef, hne]
  have h2 : (Value.ref C == Value.type "list") = false := rfl
  have h3 : (Value.ref C == Value.type "tuple") = false := rfl
  simp only [h1, h2, h3, Bool.or_false, Bool.false_eq_true, if_false]
  refine wpAny_bind (PySem.W.owit_iter hF I2.ok.mod.kin J hmI.at_ hmI.fn ?_)
  refine wpAny_mono (run_at0 (A := X.A.in1.in1) (vs := [.ref a]) FI r3 rfl bI I2 (.cons rfl .nil) hsp) (fun r s' zz => ?_) fun _ _ x => x
  obtain ⟨v, H1, I3, rv3, z, y, zs, rfl, ez, ey, hl, eq_, ⟨dx', fs', ea⟩, hL, q3⟩ := zz
  cases rv3
  have hz := (I3.hok z _ ez).1
  unfold PySem.W.OwitIt
  refine wpAny_specialOf hz.typeIs PySem.F.slot_tuple_iterator_next.lookup ?_
  show wpAny _ _ _ _ _ _
  refine wpAny_bind (wpAny_holding (hint_own ML r2 rfl I3 ea hL fun b s4 I4 => ?_))
  have nq : q ≠ z := ne_of eq_ ez (fun w => nomatch w)
  have loop : ∀ s5, Inv X pins σ H1 s5 → codeAny (model X.prog X.w) X.A.in1 (.builtin "list.extend.loop" ⟨[.ref q, .ref z, .none], []⟩) (wants (fun r s₂ => r = .none ∧ EP X pins σ Q (.ref q) s₂) X.xe) s5 := fun s5 I5 => by
    refine ext_tup (A1 := X.A.in1) hr.hd nq hl zs.length 0 H1 s5 (by omega) (Nat.zero_le _) I5 ez ey (by rw [eq_]; rfl) fun H' s6 g1 g2 g3 I6 => ?_
    have I7 := ItX.inv_drop I6 g2
    have eH : ItX.dropH H' z = upd (ItX.dropH H1 z) q (.lst zs) := by
      funext b
      by_cases bz : b = z
      · rw [bz, ItX.dropH_same, upd_ne (Ne.symm nq), ItX.dropH_same]
      · rw [ItX.dropH_ne bz]
        by_cases bq : b = q
        · rw [bq, g3, upd_same]
        · rw [upd_ne bq, ItX.dropH_ne bz, g1 b bz bq]
    rw [eH] at I7
    exact ⟨rfl, .ref q, _, I7, rfl, q3⟩
  obtain ⟨w1, its, kk, r4, hl4, e4⟩ := I4.lstM eq_
  cases r4
  refine wpAny_ite_split (fun _ => ?_) (fun _ => wpAny_pure ⟨plainId_quiet PySem.F.plain_extend_loop _, loop s4 I4⟩)
  refine wpAny_bind (wpAny_rule (wpAny_bind ?_))
  show wpAny _ _ (updateSeq q (·.push .none) >>= fun _ => updateSeq q (·.pop)) _ _ _
  refine wpAny_bind (wpAny_updateSeq e4 rfl ?_)
  have I5 := I4.lset (f := (·.push Value.none)) (its' := [Value.none]) (ys := [.non]) (t' := s4.toks) eq_ e4 (by simp) (.cons rfl .nil) (by rw [List.length_singleton, sizeLine_eq]; decide)
  obtain ⟨w2, its5, k5, r5, hl5, e5⟩ := I5.lstM upd_same
  obtain ⟨u5, rfl, ru5⟩ := r5.one
  refine wpAny_updateSeq e5 rfl ?_ (by show 1 ≤ sizeLine; rw [sizeLine_eq]; decide) (by show 0 ≤ sizeLine + 1; exact Nat.zero_le _)
  refine wpAny_pure ⟨plainId_quiet PySem.F.plain_extend_loop _, loop _ ?_⟩
  have I6 := I5.lset (f := (·.pop)) (its := [u5]) (its' := []) (ys := []) (t' := s4.toks) upd_same e5 (by rfl) .nil (Nat.zero_le _)
  rw [upd_upd] at I6
  have hH : upd H1 q (.lst []) = H1 := by
    funext b
    by_cases hb : b = q
    · rw [hb, upd_same, eq_]
    · rw [upd_ne hb]
  rw [hH] at I6
  exact I6
end
end Ov

set_option Elab.async false
set_option linter.all false
set_option maxRecDepth 100000
set_option maxHeartbeats 2000000
namespace Ov
open PySem PySem.Spec PyProof.Rows L2
/-! ### comparisons and operators of own objects -/
section
variable {X : Cx} {CX : CXT} {k : Nat} {C : Addr} {ps : List Str} {sp : Sp} {E : XK}
def rCmpO (C : Addr) (sp : Sp) (E : XK) : R2 := fun x y H Q => ∃ a dx fs b dy gs, x = .ref a ∧ y = .ref b ∧ H a = some (.ins C dx fs) ∧ H b = some (.ins C dy gs) ∧ sp [.ref a, .ref b] H (fun v H' => (∃ t, v = .bl t) ∧ Q v H') E
theorem back_of {pins : List (Addr × Obj)} {σ : L2.St} {s' : Shared} {Q : VK} {r : Value} (z : EP X pins σ (fun v H' => (∃ t, v = .bl t) ∧ Q v H') r s') : PySem.W.CmpBack (EP X pins σ Q) r s' := by
  obtain ⟨v, H', I', rv, ⟨t, rfl⟩, q⟩ := z
  obtain rfl : r = Value.bool t := rv
  exact ⟨.bl t, H', I', rfl, q⟩
theorem rich_own {op : CmpOp} {m : Str} (em : (cmpInfo op).2.1 = m) (M : MCal X.prog X.w X.K X.mg X.base CX k C m ps sp) (hr : Room k X.A) (hx : Passes CX X E) {pins : List (Addr × Obj)} {s : Shared} {σ : L2.St} {H : Hp} {x y : V} {v u : Value} {Q : VK} (I : Inv X pins σ H s) (rx : RelV x v) (ry : RelV y u) (h : rCmpO C sp E x y H Q) :
    wpAny (model X.prog X.w) X.A (richCompare op v u) (EP X pins σ Q) X.xe s := by
  obtain ⟨a, dx, fs, b, dy, gs, rfl, rfl, ha, hb, h⟩ := h
  obtain rfl : v = Value.ref a := rx
  obtain rfl : u = Value.ref b := ry
  obtain ⟨f, fd, F, hm, bd, fi⟩ := M
  obtain ⟨mA, J, _⟩ := ins_get I.hok ha
  obtain ⟨od, J, _⟩ := J.look
  obtain ⟨mB, J2, _⟩ := ins_get I.hok hb
  obtain ⟨od2, J2, _⟩ := J2.look
  obtain ⟨mm, hF⟩ := I.fr
  refine PySem.W.cmp_K (op := op) (tb := .ref C) hr.units0 hF I.ok.mod.kin J J2.type (by simp [PySem.W.notFirst]) (by rw [em]; exact hm.at_) hm.fn ?_
  exact wpAny_mono (run_atS (A := X.A) (vs := [.ref a, .ref b]) F hr rfl bd (pAtP hx) I (.cons rfl (.cons rfl .nil)) h) (fun r s' z => back_of z) fun _ _ x => x
theorem op_eqO (M : MCal X.prog X.w X.K X.mg X.base CX k C "__eq__" ps sp) (hr : Room k X.A) (hx : Passes CX X E) : OpR X (compareOp .Eq) (rCmpO C sp E) := fun pins s σ H x y v u Q I rx ry h => rich_own (op := .Eq) rfl M hr hx I rx ry h
theorem op_ltO (M : MCal X.prog X.w X.K X.mg X.base CX k C "__lt__" ps sp) (hr : Room k X.A) (hx : Passes CX X E) : OpR X (compareOp .Lt) (rCmpO C sp E) := fun pins s σ H x y v u Q I rx ry h => rich_own (op := .Lt) rfl M hr hx I rx ry h
theorem op_leO (M : MCal X.prog X.w X.K X.mg X.base CX k C "__le__" ps sp) (hr : Room k X.A) (hx : Passes CX X E) : OpR X (compareOp .LtE) (rCmpO C sp E) := fun pins s σ H x y v u Q I rx ry h => rich_own (op := .LtE) rfl M hr hx I rx ry h
theorem op_gtO (M : MCal X.prog X.w X.K X.mg X.base CX k C "__gt__" ps sp) (hr : Room k X.A) (hx : Passes CX X E) : OpR X (compareOp .Gt) (rCmpO C sp E) := fun pins s σ H x y v u Q I rx ry h => rich_own (op := .Gt) rfl M hr hx I rx ry h
theorem op_geO (M : MCal X.prog X.w X.K X.mg X.base CX k C "__ge__" ps sp) (hr : Room k X.A) (hx : Passes CX X E) : OpR X (compareOp .GtE) (rCmpO C sp E) := fun pins s σ H x y v u Q I rx ry h => rich_own (op := .GtE) rfl M hr hx I rx ry h
/-- a + b of two own objects of one class -/
def rBinO (C : Addr) (sp : Sp) (E : XK) : R2 := fun x y H Q => ∃ a dx fs b dy gs, x = .ref a ∧ y = .ref b ∧ H a = some (.ins C dx fs) ∧ H b = some (.ins C dy gs) ∧ sp [.ref a, .ref b] H (fun v H' => (∃ c, v = .ref c) ∧ Q v H') E
theorem op_binO {op : Operator} {m : Str} (em : PySem.dunder op.info.2 = m) (hc : PySem.W.selfFirst X.K C = true) (M : MCal X.prog X.w X.K X.mg X.base CX k C m ps sp) (hr : Room k X.A) (hx : Passes CX X E) : OpR X (binaryOp op) (rBinO C sp E) := by
  intro pins s σ H x y v u Q I rx ry h
  obtain ⟨a, dx, fs, b, dy, gs, rfl, rfl, ha, hb, h⟩ := h
  obtain rfl : v = Value.ref a := rx
  obtain rfl : u = Value.ref b := ry
  obtain ⟨f, fd, F, hm, bd, fi⟩ := M
  obtain ⟨mA, J, _⟩ := ins_get I.hok ha
  obtain ⟨od, J, _⟩ := J.look
  obtain ⟨mB, J2, _⟩ := ins_get I.hok hb
  obtain ⟨od2, J2, _⟩ := J2.look
  obtain ⟨mm, hF⟩ := I.fr
  refine PySem.W.binop_K (op := op) hF I.ok.mod.kin J J2.type hc (by rw [em]; exact hm.at_) hm.fn ?_
  refine wpAny_mono (run_atS (A := X.A) (vs := [.ref a, .ref b]) F hr rfl bd (pAtP hx) I (.cons rfl (.cons rfl .nil)) h) (fun r s' z => ?_) fun _ _ x => x
  obtain ⟨v, H', I', rv, ⟨c, rfl⟩, q⟩ := z
  obtain rfl : r = Value.ref c := rv
  exact ⟨.ref c, H', I', rfl, q⟩
end
/-! ### isinstance with own classes -/
/-- what a class must say, so that isinstance asks its instances rightly -/
structure InsC (K : PySem.W.Frag) (C : Addr) : Prop where
  cl : Cls K C
  ha : PySem.W.findIn K (.ref C) "__class__" = some (some (.builtin "object.__class__"))
  hn : PySem.W.specialIn K (.builtin "object.__class__") "__get__" = some (some (.builtin "getset_descriptor.__get__"))
  ht : PySem.W.takesIn K (.builtin "object.__class__") = some true
  hm : PySem.W.mroIn K C (.type "object") = some true
/-- isinstance(x, C) of an instance of C -/
def rIsO (K : PySem.W.Frag) : List V → Hp → VK → Prop := fun xs H Q => ∃ a C D dx fs b, xs = [.ref a, .ref D] ∧ H a = some (.ins C dx fs) ∧ InsC K C ∧ PySem.W.kitOne K (.ref C) (.ref D) = some b ∧ Q (.bl b) H
theorem call_isO {X : Cx} : CallR X (.builtin "isinstance") (rIsO X.K) := by
  intro pins s σ H xs us Q I r h
  obtain ⟨a, C, D, dx, fs, b, rfl, ha, c, kt, q⟩ := h
  exact call_isi pins s σ H _ us Q I r ⟨_, _, _, _, b, rfl, .own D, .base (.ins ha c.cl c.ha c.hn c.ht c.hm), kt, q⟩
def cIsiO (K : PySem.W.Frag) : List V → Hp → VK → Prop := fun xs H Q => cIsi K xs H Q ∨ rIsO K xs H Q
theorem call_cIsiO {X : Cx} : CallR X (.builtin "isinstance") (cIsiO X.K) := CallR.or call_cIsi call_isO
/-! ### defs that are called within an except suite with the exception, and raise nothing -/
abbrev SpX := Addr → Value → Option Addr → Sp
structure FnX (P : Program) (w : World) (K : PySem.W.Frag) (mg : Str → Option Value) (base : Heap) (k : Nat) (f : Addr) (fd : FuncData) (ps : List Str) (sp : SpX) : Prop where
  len : ∀ a cls d vs H Q E, sp a cls d vs H Q E → vs.length = ps.length
  run : ∀ (A : Around) (outer : List Env) (s : Shared) (H : Hp) (args : Args) (us : List Value) (vs : List V) (Q : VK) (E : XK) (a : Addr) (oe : Obj) (cls : Value) (d : Option Addr), L2H.RoomH k A → L2H.PinOk outer H s (a, oe) → Zc cls d oe → (∃ ws, oe.data = .fields ws) →
    Env0 P w K mg base A outer s H → BindsTo s fd args (ps.zip us) → Vals vs us → sp a cls d vs H Q E → codeAny (model P w) A (.call (.ref f) args) (CR CX0 outer P w H s Q E) s
def CalX (P : Program) (w : World) (K : PySem.W.Frag) (mg : Str → Option Value) (base : Heap) (k : Nat) (x : Str) (ps : List Str) (sp : SpX) : Prop :=
  ∃ (f : Addr) (fd : FuncData), FnX P w K mg base k f fd ps sp ∧ mg x = some (.ref f) ∧ PySem.W.keepIn K (.ref f) = true ∧ Binds K fd ps []
theorem Has.okH {P : Program} {w : World} {K : PySem.W.Frag} {mg : Str → Option Value} {base : Heap} {x : Str} {st : Stmt} {N ps : List Str} {k : Nat} {sp : SpX} (h : Has K mg x st ps) (S : FnScope N ps (defScope st)) (len : ∀ a cls d vs H Q E, sp a cls d vs H Q E → vs.length = ps.length)
    (hbody : ∀ (f : Addr) (cdv : Value) (A : Around) (outer : List Env) (s : Shared) (H : Hp) (vs : List V) (Q : VK) (E : XK) (a : Addr) (oe : Obj) (cls : Value) (d : Option Addr), L2H.RoomH k (A.deeper (envOfC x (defScope st) s.heap.objs.size f cdv)) → Zc cls d oe → (∃ ws, oe.data = .fields ws) → sp a cls d vs H Q E →
      ∃ t, PSs (L2H.cxH CX0 P w K mg base N x (defScope st) f cdv A outer s H E (a, oe)) (defBody st) t ∧ t { nx := fun _ H' => Q .non H', rt := Q } (start N vs) H) : CalX P w K mg base (k + 1) x ps sp := by
  obtain ⟨f, fd, F, m, b⟩ := h
  refine ⟨f, fd, ⟨len, fun A outer s H args us vs Q E a oe cls d hr pin hz hf e0 hb r hsp => ?_⟩, m, F.kp, .all b⟩
  obtain ⟨oc, od, kV, doc, pm, an, cdv, ct, osl, rfl, lk, hcd⟩ := F.ex
  have hl := len _ _ _ _ _ _ _ hsp
  have KX : K.In s.heap := e0.mod.kin.keeps fun b o e => (e0.bs b o e).1
  have lim : s.heap.NoLimit := e0.mod.nolimit.keeps fun b o e => (e0.bs b o e).1
  have hkind : ∀ y ∈ ps.zip us, (defScope st).names.lookup y.1 = some .local ∨ ((defScope st).names.lookup y.1 = some .cell ∧ ((cellsFrom (s.heap.objs.size + 1) (defScope st).names []).lookup y.1).isSome = true) := fun ⟨n, v⟩ hy => by
    rcases S.par n (List.of_mem_zip hy).1 with q | q
    · exact Or.inl q
    · exact Or.inr ⟨q, PySem.W.cellsFrom_some _ _ _ (.inl q)⟩
  refine codeAny_call_function hr.depth (KX _ _ lk) rfl S.co S.gen rfl (PySem.W.codeRec_of KX hcd) (hb _ _ _ _ ?_)
  refine wpAny_newFunctionEnv_cells S.kind hkind fun env he s1 x1 => ?_
  subst he
  refine ⟨lim.keeps x1.toInCall.keep, codeAny_func ?_⟩
  obtain ⟨t, ht, hq⟩ := hbody f cdv A outer s H vs Q E a oe cls d (hr.deeper _) hz hf hsp
  have I : Inv (L2H.cxH CX0 P w K mg base N x (defScope st) f cdv A outer s H E (a, oe)) [] (L2.start N vs) H s1 := L2H.inv_startH S pin e0 hl r x1
  refine wpAny_mono (ht.run [] s1 (L2.start N vs) H _ I hq) (fun fl s' hs => ?_) fun e s' hs => hs
  have fin : ∀ {σ' : L2.St} {H' : Hp} {v : V} {u : Value}, Inv (L2H.cxH CX0 P w K mg base N x (defScope st) f cdv A outer s H E (a, oe)) [] σ' H' s' → RelV v u → Q v H' → CE outer P w H s Q u s' :=
    fun {σ' H' v u} J rv q => ⟨v, H', J.os, J.bare, J.base, J.hok, rv, q⟩
  cases fl with
  | ret u =>
    obtain ⟨v, σ', H', J, rv, q⟩ := hs
    exact fin J rv q
  | next =>
    obtain ⟨σ', H', J, q⟩ := hs
    exact fin (v := V.non) (u := Value.none) J rfl q
  | brk =>
    obtain ⟨_, _, _, q⟩ := hs
    exact False.elim q
  | cont =>
    obtain ⟨_, _, _, q⟩ := hs
    exact False.elim q
/-- such a call within the suite -/
def tCallX (sp : SpX) (a : Addr) (cls : Value) (d : Option Addr) (t : TA) : TE := fun σ H Q => t σ H fun vs H1 => sp a cls d vs H1 Q E0
theorem pe_callX {X : Cx} {k : Nat} {x : Str} {ps : List Str} {sp : SpX} {a : Addr} {oe : Obj} {cls : Value} {d : Option Addr} {pn : List (Addr × Obj)} {q pos : Pos} {e : Expr} {es : List Expr} {t : TA} (c : CalX X.prog X.w X.K X.mg X.base k x ps sp) (hr : Room k X.A)
    (hz : Zc cls d oe) (hf : ∃ ws, oe.data = .fields ws) (hg : Gl (X.suite a ((a, oe) :: pn)) x) (ha : PA (X.suite a ((a, oe) :: pn)) (e :: es) t) (hdb : (x == ("__debug__" : Str)) = false := by decide)
    (he : starEach (e :: es) X.env = (false, eval e X.env) :: starEach es X.env := by rfl) (hpl : (backTo pos (starEach es X.env)).any (·.1) = false := by rfl) : PE (X.suite a ((a, oe) :: pn)) (.Call (.Name x q) (e :: es) [] pos) (tCallX sp a cls d t) := by
  obtain ⟨f, fd, F, m, kp, b⟩ := c
  refine ⟨fun pins s σ H Q I h => wpAny_Call_Name_kw (ld_glob I hg m ?_ hdb)⟩
  refine PySem.W.callWith_K (h₀ := X.base) I.ok.mod.kin kp (thn (ha.run pos pins s σ H _ I h) fun us s1 ⟨vs, H1, I1, r, z⟩ => ⟨I1.kIn, ?_⟩) he hpl
  have hl : us.length = ps.length := by rw [← r.length]; exact F.len _ _ _ _ _ _ _ z
  have bd := b s1 us I1.kIn (by simpa using hl)
  have P1 := I1.pin (a, oe) (List.mem_append_left _ List.mem_cons_self)
  have hpin : L2H.PinOk (X.suite a ((a, oe) :: pn)).stack H1 s1 (a, oe) := ⟨P1.1, P1.2.1, fun hm => (List.mem_cons.mp (I1.stkSub a hm)).elim P1.2.2.1 P1.2.2.2.1, P1.2.2.2.2⟩
  refine wpAny_call (codeAny_mono (F.run (X.suite a ((a, oe) :: pn)).A _ s1 H1 ⟨us, []⟩ us vs Q E0 a oe cls d ⟨hr.dp, hr.un⟩ hpin hz hf I1.env0 (by simpa using bd) r z) fun r s' y => ?_)
  cases r with
  | error e => exact y.elim
  | ok fl =>
    cases fl with
    | ret u => exact I1.after y
    | next => exact y.elim
    | brk => exact y.elim
    | cont => exact y.elim
/-- isinstance(e, c) in such a def -/
theorem call_isP {X : Cx} {a : Addr} {cls : Value} {d : Option Addr} {oe : Obj} (hp : (a, oe) ∈ X.pn) (hz : Zc cls d oe) (hf : ∃ vs, oe.data = .fields vs) : CallR X (.builtin "isinstance") (rIsX X.K a cls d) := by
  intro pins s σ H xs us Q I r h
  obtain ⟨D, dd, fs, rfl, rfl, hdd, C, h⟩ := h
  obtain ⟨ha, _⟩ := I.pin (a, oe) (List.mem_append_left _ hp)
  obtain ⟨vs, hd⟩ := hf
  obtain ⟨mA, hns, _⟩ := (show ObjOk X.prog X.w H s.heap dd (.xd fs) from I.hok dd _ hdd)
  obtain ⟨od, ho, _⟩ := lookIn_ns hns
  have J : PySem.W.InstAt s.heap a oe D (some od) := ⟨ha, hz.1, by unfold PySem.W.notCls; rw [hd] <;> rfl, by rw [hz.2]; exact ho⟩
  have hcl : (PySem.W.clsIn X.K D).isSome = true := by
    have z := C.hd
    unfold PySem.W.hasDictIn at z
    obtain ⟨cd, hcd, _⟩ := PySem.W.any_some z
    rw [hcd] <;> rfl
  have Z := PySem.W.kitx_exc (x := a) (ox := oe) (od := some od) hcl C.hg C.hk C.hs C.ha C.hn C.ht C.hm
  rcases h with ⟨c, u, b, rfl, hc, e, q⟩ | ⟨tp, cs, ws, b, rfl, hT, k, e, q⟩
  · obtain ⟨u1, u2, rfl, r1, r2⟩ := vals2 r
    have e1 : u1 = .ref a := r1
    subst e1
    have e2 := hc.eq r2
    subst e2
    exact PySem.W.kia_one Z I.kIn J e (fun z => nomatch z) fun tk => ⟨.bl b, H, I.tok tk, rfl, q⟩
  · obtain ⟨u1, u2, rfl, r1, r2⟩ := vals2 r
    have e1 : u1 = .ref a := r1
    subst e1
    cases (show u2 = Value.ref tp from r2)
    obtain ⟨_, its, rv, o, h1, h2, n, h3⟩ := (show ObjOk X.prog X.w H s.heap tp (.tup cs) from I.hok tp _ hT)
    have e3 := ClsV.all k rv
    subst e3
    obtain ⟨oc, od', dt, sl⟩ := o
    simp only at h2 h3
    subst h2 h3
    exact PySem.W.kia_tup Z I.kIn J h1 e (fun z => nomatch z) fun tk => ⟨.bl b, H, I.tok tk, rfl, q⟩
theorem passN {X : Cx} : Passes (L2.CX X.prog X.w) X E0 := fun pins σ H s e s' I c => pAtN (σ := σ) pins H s e s' I c
/-! ### texts and numbers -/
def cStr : List V → Hp → VK → Prop := fun xs H Q => ∃ i, xs = [.int i] ∧ i.natAbs.log2 < 1920 ∧ Q (.str (toString i)) H
theorem call_cStr {X : Cx} : CallR X (.type "str") cStr := call_str_int
def cIntX : List V → Hp → VK → Prop := fun xs H Q => cInt xs H Q ∨ ∃ a n, xs = [.str a] ∧ PySem.intText? a = some n ∧ a.length ≤ 640 ∧ Q (.int n) H
theorem call_cIntX {X : Cx} : CallR X (.type "int") cIntX := CallR.or call_cInt call_int_str
def rFind : V → List V → Hp → VK → Prop := fun x xs H Q => ∃ a b, x = .str a ∧ xs = [.str b] ∧ Q (.int (Txt.find a b)) H
theorem mt_oFind {X : Cx} : MtR X "str.find" rFind := mt_find
def rJoin (K : PySem.W.Frag) : V → List V → Hp → VK → Prop := fun x xs H Q => ∃ a p, ∃ ys : List Str, x = .str a ∧ xs = [.ref p] ∧ (SqL K H p (ys.map V.str) ∨ SqT K H p (ys.map V.str)) ∧ (ys.map (·.length)).sum + ys.length * a.length ≤ 16777216 ∧ Q (.str (Txt.join a ys)) H
theorem mt_oJoin {X : Cx} : MtR X "str.join" (rJoin X.K) := mt_join
theorem call_listO2 {X : Cx} {C : Addr} {j1 j2 : Nat} {psI psL : List Str} {spI spL : Sp} (MI : MCal X.prog X.w X.K X.mg X.base CX0 j1 C "__iter__" psI spI) (ML : MCal X.prog X.w X.K X.mg X.base CX0 j2 C "__len__" psL spL) (hr : Room (j1 + j2 + 3) X.A) : CallR X (.type "list") (rListO X.K C spI spL) :=
  call_listO (MI.mono (Nat.le_add_right j1 j2)) (ML.mono (Nat.le_add_left j2 j1)) hr
theorem khas_mk {K : PySem.W.Frag} {C : Addr} {m q : Str} {st : Stmt} {ps : List Str} {p f : Addr} {oc : Value} {od an : Option Addr} {osl : Array (Option Value)} {kV doc pm cdv ct : Value} {rest : List Value}
    (a : PySem.W.findCls K (.ref C) (.type "type") m = some (.get (.builtin "classmethod.__get__") (.ref p) .none (.ref C))) (rc : PySem.W.recIn K p "classmethod" = some (.ref f :: rest)) (l : K.lookup f = some ⟨oc, od, .func (PySem.W.fnOf m q (defArgs st) (defBody st) (defScope st) .none kV doc pm an cdv ct), osl⟩)
    (c : PySem.W.codeIn K cdv q = true) (k : PySem.W.keepIn K (.ref f) = true)
    (hb : ∀ (kV doc pm : Value) (an : Option Addr) (cdv ct : Value) (us : List Value), us.length = ps.length → bindArgs (PySem.W.fnOf m q (defArgs st) (defBody st) (defScope st) .none kV doc pm an cdv ct) ⟨us, []⟩ = pure (ps.zip us)) : KHas K C m q st ps :=
  ⟨p, f, _, fun_mk l c k, ⟨a, ⟨rest, rc⟩, fn_in l⟩, hb kV doc pm an cdv ct⟩
/-! ### steps -/
section
variable {σ : L2.St} {H : Hp} {D : Ends} {te ta tb : TE} {al : TA} {Q : VK} {C a : Addr} {sp : Sp} {E : L2.St → XK} {m : Str} {i : Nat} {K : PySem.W.Frag} {g : TG} {t : TS}
theorem q_makeS (h : al σ H fun vs H1 => ∀ x dx, H1 x = none → H1 dx = none → dx ≠ x → sp (.ref x :: vs) (upd (upd H1 dx (.own x)) x (.ins C dx [])) (fun v H2 => v = .non ∧ Q (.ref x) H2) (E σ)) : tMakeS C sp E al σ H Q := h
theorem q_makeV (hs : σ[i]? = some (some (.ref C))) (h : tMakeS C sp E al σ H Q) : tMakeV i C sp E al σ H Q := ⟨hs, h⟩
theorem q_methS (h : ta σ H fun x H1 => ∃ a dx fs, x = .ref a ∧ H1 a = some (.ins C dx fs) ∧ fs.lookup m = none ∧ al σ H1 fun vs H2 => sp (x :: vs) H2 Q (E σ)) : tMethS C m sp E ta al σ H Q := h
theorem q_kmeth (h : ta σ H fun x H1 => x = .ref C ∧ al σ H1 fun vs H2 => sp (.ref C :: vs) H2 Q (E σ)) : tKMeth C sp E ta al σ H Q := h
theorem q_m1 {r : V → List V → Hp → VK → Prop} (h : ta σ H fun x H1 => (∃ a, x = .str a) ∧ tb σ H1 fun y H2 => r x [y] H2 Q) : tM1 r ta tb σ H Q := h
theorem q_isO {x D : Addr} {dx : Addr} {fs : List (Str × V)} (b : Bool) (hx : H x = some (.ins C dx fs)) (c : InsC K C) (kt : PySem.W.kitOne K (.ref C) (.ref D) = some b) (h : Q (.bl b) H) : cIsiO K [.ref x, .ref D] H Q := .inr ⟨x, C, D, dx, fs, b, rfl, hx, c, kt, h⟩
theorem q_isiO {x : V} {n : String} (b : Bool) (hn : n ∈ tyNames) (ht : isTy x H n b) (h : Q (.bl b) H) : cIsiO K [x, .ty n] H Q := .inl ⟨x, n, b, rfl, hn, ht, h⟩
/-- for i, x in enumerate(xs), xs a list (b) or a tuple: the turn's pair is new at T -/
def SqB (K : PySem.W.Frag) (b : Bool) (H : Hp) (a : Addr) (xs : List V) : Prop := if b = true then SqL K H a xs else SqT K H a xs
theorem q_forE {b : Bool} {xs : List V} (Pv : Nat → L2.St → Hp → Prop) (e : al σ H fun vs H1 => vs = [.ref a] ∧ SqB K b H1 a xs ∧ Pv 0 σ H1) (hl : ∀ i σ H, i ≤ xs.length → Pv i σ H → SqB K b H a xs)
    (hs : ∀ i x σ H T, xs[i]? = some x → Pv i σ H → H T = none → g (.ref T) σ (upd H T (.tup [.int (i : Nat), x])) fun σ2 H2 => t { D with nx := Pv (i + 1), ct := Pv (i + 1), bk := D.nx } σ2 H2) (hd : ∀ σ H, Pv xs.length σ H → D.nx σ H)
    (mono : ∀ {Q1 Q2 : List V → Hp → Prop}, (∀ vs H1, Q1 vs H1 → Q2 vs H1) → al σ H Q1 → al σ H Q2) : tFor (iEnumA K al) g t D σ H := by
  refine mono (fun vs H1 z => ?_) e
  obtain ⟨rfl, hq, p0⟩ := z
  refine ⟨a, xs, rfl, ?_⟩
  cases b with
  | true =>
    refine .inl ⟨hq, for_it walk_enum Pv p0 (fun i σ H hi p => hl i σ H hi p) (fun i x σ H H' hi p y => ?_) hd⟩
    obtain ⟨T, x1, y1, rfl, hT, rfl, e1, e2⟩ := y
    cases e1
    exact hs i y1 σ H T e2 p hT
  | false =>
    refine .inr ⟨hq, for_it walk_enumT Pv p0 (fun i σ H hi p => hl i σ H hi p) (fun i x σ H H' hi p y => ?_) hd⟩
    obtain ⟨T, x1, y1, rfl, hT, rfl, e1, e2⟩ := y
    cases e1
    exact hs i y1 σ H T e2 p hT
theorem q_forEV {b : Bool} {k : Nat} {xs : List V} (ev : σ[k]? = some (some (.ref a))) (Pv : Nat → L2.St → Hp → Prop) (h0 : Pv 0 σ H) (hl : ∀ i σ H, i ≤ xs.length → Pv i σ H → SqB K b H a xs)
    (hs : ∀ i x σ H T, xs[i]? = some x → Pv i σ H → H T = none → g (.ref T) σ (upd H T (.tup [.int (i : Nat), x])) fun σ2 H2 => t { D with nx := Pv (i + 1), ct := Pv (i + 1), bk := D.nx } σ2 H2) (hd : ∀ σ H, Pv xs.length σ H → D.nx σ H) : tFor (iEnumA K (tCons (tVar k) tNil)) g t D σ H :=
  q_forE Pv ⟨_, ev, rfl, hl 0 _ _ (Nat.zero_le _) h0, h0⟩ hl hs hd fun {Q1 Q2} f z => by
    obtain ⟨v, hv, q⟩ := z
    exact ⟨v, hv, f _ _ q⟩
end
end Ov

set_option Elab.async false
set_option linter.all false
set_option maxRecDepth 100000
set_option maxHeartbeats 2000000
namespace Ov
open PySem PySem.Spec PyProof.Rows L2
/-! ### != of own objects that have == alone -/
theorem ifBound_B {M : Model} {A : Around} {E : Value → Shared → Prop} {s : Shared} {K : PySem.W.Frag} {x C : Addr} {ox : Obj} {od : Option Obj} {name : Str} {id : String} {args : List Value} {Q : Option Value → Shared → Prop} (X : K.In s.heap) (I : PySem.W.InstAt s.heap x ox C od)
    (hs : PySem.W.findIn K (.ref C) name = some (some (.builtin id))) (hb : ∀ v : Value, bindSpecial (.builtin id) v = pure (.builtin id, [v])) (h : wpAny M A (call (.builtin id) (.ref x :: args)) (fun v => Q (some v)) E s) : wpAny M A (callSpecialIfBound? (.ref x) name args) Q E s := by
  simp only [callSpecialIfBound?, bindSpecialIfBound?]
  have looked := PySem.W.looks_findIn (M := M) X hs
  refine wpAny_holding (wpAny_bind (wpAny_bind (wpAny_bind (I.type.here (looked.here ?_)))))
  have fin : wpAny M A (call (.builtin id) ([.ref x] ++ args) >>= fun v => pure (some v)) Q E s := wpAny_bind (wpAny_mono h (fun v s' z => wpAny_pure z) fun _ _ z => z)
  refine wpAny_bind (wpAny_askSetting (wpAny_ite ?_))
  rw [hb]
  split
  · exact wpAny_bind (wpAny_pure (wpAny_pure (by exact fin)))
  · exact wpAny_tryCatch (wpAny_bind (wpAny_pure (wpAny_pure (by exact fin))))
def rNeO (C : Addr) (sp : Sp) (E : XK) : R2 := fun x y H Q => ∃ a dx fs b dy gs, x = .ref a ∧ y = .ref b ∧ H a = some (.ins C dx fs) ∧ H b = some (.ins C dy gs) ∧ sp [.ref a, .ref b] H (fun v H' => ∃ t, v = .bl t ∧ Q (.bl (!t)) H') E
theorem op_neO {X : Cx} {CX : CXT} {k : Nat} {C : Addr} {ps : List Str} {sp : Sp} {E : XK} (hn : PySem.W.findIn X.K (.ref C) "__ne__" = some (some (.builtin "object.__ne__"))) (hm0 : PySem.W.mroIn X.K C (.type "object") = some true) (M : MCal X.prog X.w X.K X.mg X.base CX k C "__eq__" ps sp) (hr : Room (k + 1) X.A) (hx : Passes CX X E) : OpR X (compareOp .NotEq) (rNeO C sp E) := by
  intro pins s σ H x y v u Q I rx ry h
  obtain ⟨a, dx, fs, b, dy, gs, rfl, rfl, ha, hb, h⟩ := h
  obtain rfl : v = Value.ref a := rx
  obtain rfl : u = Value.ref b := ry
  obtain ⟨f, fd, F, hm, bd, fi⟩ := M
  obtain ⟨mA, J, _⟩ := ins_get I.hok ha
  obtain ⟨od, J, _⟩ := J.look
  obtain ⟨mB, J2, _⟩ := ins_get I.hok hb
  obtain ⟨od2, J2, _⟩ := J2.look
  show wpAny (model X.prog X.w) X.A (richCompare .NotEq (.ref a) (.ref b)) (EP X pins σ Q) X.xe s
  have one : wpAny (model X.prog X.w) X.A (tryCompare (.ref a) (cmpInfo .NotEq).2.1 (.ref b)) (fun r s' => ∃ v, r = some v ∧ EP X pins σ Q v s') X.xe s := by
    unfold tryCompare
    refine wpAny_bind (ifBound_B I.kIn J hn (fun v => PySem.F.slot_object_ne.bind v) ?_)
    refine wpAny_call (codeAny_call_builtin PySem.F.slot_object_ne.plain PySem.F.entry_object_ne ?_)
    refine @PySem.W.check_slot (model X.prog X.w) _ _ s "object.__ne__" "object" "__ne__" (.ref a) [.ref b] [] _ (by decide +kernel) (by decide +kernel) (J.type.andThen (PySem.W.looks_mroIn I.kIn hm0)) (PySem.F.args_object_ne_2 _ _) ?_
    unfold Builtin.«object.__ne__»
    refine wpAny_bind (wpAny_of_eq (a := ((Value.ref a : Value), [Value.ref b])) (by first | rfl | (simp only [slotArgs]; rfl)) ?_)
    refine wpAny_bind (wpAny_cRoomFor (hr.in1).units0 ?_)
    refine wpAny_bind (PySem.W.ifBound_K I.kIn J hm.at_ hm.fn ?_)
    refine wpAny_mono (run_atS (A := X.A.in1) (vs := [.ref a, .ref b]) F hr.in1 rfl bd (pAtP hx) I (.cons rfl (.cons rfl .nil)) h) (fun r s' z => ?_) fun _ _ x => x
    obtain ⟨v, H', I', rv, t, rfl, q⟩ := z
    obtain rfl : r = Value.bool t := rv
    refine wpAny_bind (wpAny_truthy_bool ?_)
    exact wpAny_pure (wpAny_pure ⟨_, rfl, .bl (!t), H', I', rfl, q⟩)
  unfold richCompare
  simp only [oneThing_ref]
  refine wpAny_holding (wpAny_bind (wpAny_cRoomFor hr.units0 ?_))
  refine wpAny_bind (J.type.here (wpAny_bind (J2.type.here ?_)))
  split
  · rename_i q
    simp at q
  · refine wpAny_bind (wpAny_pure ?_)
    simp only [Bool.false_eq_true, if_false]
    refine wpAny_bind (wpAny_mono one (fun r s' z => ?_) fun _ _ e => e)
    obtain ⟨v, rfl, hq⟩ := z
    exact wpAny_pure hq
/-! ### the order of (a length, a tuple of ints) -/
def lexp (p : Int → Int → Bool) (z : Bool) : List Int → List Int → Bool
  | x :: xs, y :: ys => if x = y then lexp p z xs ys else p x y
  | _, _ => z
def kcmp (p : Int → Int → Bool) (z : Bool) (ns ms : List Int) : Bool := if ns.length = ms.length then lexp p z ns ms else p ns.length ms.length
theorem dpK {K : PySem.W.Frag} {H : Hp} : ∀ ns : List Int, DpAll K H (ns.map V.int) (ns.map PyData.int)
  | [] => .nil
  | n :: r => .cons (.int n) (dpK r)
theorem layK : ∀ ns : List Int, PyData.canLayAll0 (ns.map PyData.int) = true
  | [] => rfl
  | n :: r => by
    rw [List.map_cons]
    simp only [PyData.canLayAll0, PyData.canLay0, Bool.true_and]
    exact layK r
theorem depK : ∀ ns : List Int, PyData.depthAll (ns.map PyData.int) ≤ 1
  | [] => by simp [PyData.depthAll]
  | n :: r => by
    rw [List.map_cons]
    have := depK r
    simp only [PyData.depthAll, PyData.depth]
    omega
theorem shapedT (ns : List Int) : SeqAt.shaped (.tuple (ns.map PyData.int)) = true := by
  have h1 := layK ns
  have h2 := depK ns
  unfold SeqAt.shaped
  rw [Bool.and_eq_true]
  refine ⟨?_, decide_eq_true ?_⟩
  · simp only [PyData.canLay0]
    exact h1
  · simp only [PyData.depth]
    omega
theorem eqvAllK : ∀ ns ms : List Int, PyData.eqvAll (ns.map PyData.int) (ms.map PyData.int) = decide (ns = ms)
  | [], [] => by simp [PyData.eqvAll]
  | [], m :: ms => by simp [PyData.eqvAll]
  | n :: ns, [] => by simp [PyData.eqvAll]
  | n :: ns, m :: ms => by
    rw [List.map_cons, List.map_cons, PyData.eqvAll, eqvAllK ns ms]
    by_cases h : n = m
    · subst h
      simp [PyData.eqv]
    · have e : (n == m) = false := by simpa using h
      simp [PyData.eqv, e, h]
theorem eqvK (ns ms : List Int) : PyData.eqv (.tuple (ns.map PyData.int)) (.tuple (ms.map PyData.int)) = decide (ns = ms) := by
  rw [PyData.eqv]
  exact eqvAllK ns ms
theorem lexAt_shift (e r : Nat → Bool) (z : Bool) : ∀ (k i : Nat), Ob.lexAt e r z (i + 1) k = Ob.lexAt (fun j => e (j + 1)) (fun j => r (j + 1)) z i k
  | 0, _ => rfl
  | k + 1, i => by
    rw [Ob.lexAt_succ, Ob.lexAt_succ, lexAt_shift e r z k (i + 1)]
theorem lexAt_eq (p : Int → Int → Bool) (z : Bool) : ∀ ns ms : List Int, ns.length = ms.length → Ob.lexAt (fun j => decide (ns.getD j 0 = ms.getD j 0)) (fun j => p (ns.getD j 0) (ms.getD j 0)) z 0 ns.length = lexp p z ns ms
  | [], [], _ => rfl
  | [], _ :: _, h => by cases h
  | _ :: _, [], h => by cases h
  | n :: ns, m :: ms, h => by
    have ih := lexAt_eq p z ns ms (by simpa using h)
    rw [List.length_cons, Ob.lexAt_succ, lexAt_shift]
    show (if decide (n = m) = true then _ else p n m) = if n = m then _ else _
    by_cases e : n = m
    · rw [if_pos (decide_eq_true e), if_pos e]
      exact ih
    · rw [if_neg (by rw [decide_eq_false e]; exact Bool.false_ne_true), if_neg e]
/-- how the library compares two tuples -/
def TupRule (op : CmpOp) (zz : Nat → Nat → Bool) : Prop := ∀ (A : Around) (s : Shared) (l b : Addr) (items items2 : Array Value) (e r : Nat → Bool), s.heap.IsTuple l items → s.heap.IsTuple b items2 → A.units < cLine →
  (∀ j (h1 : j < items.size) (h2 : j < items2.size), SeqAt.EqAt A.in1 s items[j] items2[j] (e j)) → (∀ j (h1 : j < items.size) (h2 : j < items2.size), e j = false → Ob.RcOp op A.in1 s items[j] items2[j] (r j)) →
  Ob.RcOp op A s (.ref l) (.ref b) (Ob.lexAt e r (zz items.size items2.size) 0 (min items.size items2.size))
section
variable {X : Cx} {pins : List (Addr × Obj)} {σ : L2.St} {H : Hp} {s : Shared} {op : CmpOp} {zz : Nat → Nat → Bool} {p : Int → Int → Bool} {A : Around} {t r : Addr} {ns ms : List Int}
theorem rc_ints (T : TupRule op zz) (N : ∀ (A : Around) (s : Shared) (i j : Int) (t u : Tok), Ob.RcOp op A s (.int i t) (.int j u) (p i j)) (I : Inv X pins σ H s) (ht : H t = some (.tup (ns.map V.int))) (hr : H r = some (.tup (ms.map V.int))) (hu : A.units < cLine) :
    Ob.RcOp op A s (.ref t) (.ref r) (Ob.lexAt (fun j => decide (ns.getD j 0 = ms.getD j 0)) (fun j => p (ns.getD j 0) (ms.getD j 0)) (zz ns.length ms.length) 0 (min ns.length ms.length)) := by
  obtain ⟨its, r1, p1, _⟩ := I.tuple (SqT.of (K := X.K) ht)
  obtain ⟨its2, r2, p2, _⟩ := I.tuple (SqT.of (K := X.K) hr)
  have i1 : IntsAre its ns := Vals.ints r1
  have i2 : IntsAre its2 ms := Vals.ints r2
  have z1 : its.toArray.size = ns.length := by rw [List.size_toArray]; exact i1.length
  have z2 : its2.toArray.size = ms.length := by rw [List.size_toArray]; exact i2.length
  have at1 : ∀ j (h1 : j < its.toArray.size), ∃ t, its.toArray[j] = .int (ns.getD j 0) t := fun j h1 => PyProof.Rows.IntsAre.int_at i1 _ _ (by simp at h1; simp [h1])
  have at2 : ∀ j (h1 : j < its2.toArray.size), ∃ t, its2.toArray[j] = .int (ms.getD j 0) t := fun j h1 => PyProof.Rows.IntsAre.int_at i2 _ _ (by simp at h1; simp [h1])
  have R := T A s t r its.toArray its2.toArray (fun j => decide (ns.getD j 0 = ms.getD j 0)) (fun j => p (ns.getD j 0) (ms.getD j 0)) p1 p2 hu (fun j h1 h2 => by
    obtain ⟨t1, g1⟩ := at1 j h1
    obtain ⟨t2, g2⟩ := at2 j h2
    rw [g1, g2]
    have z : (ns.getD j 0 == ms.getD j 0) = decide (ns.getD j 0 = ms.getD j 0) := by
      by_cases q : ns.getD j 0 = ms.getD j 0
      · rw [decide_eq_true q]; exact beq_iff_eq.mpr q
      · rw [decide_eq_false q]; exact beq_eq_false_iff_ne.mpr q
    rw [← z]
    exact SeqAt.EqAt.int_int _ _ _ _) (fun j h1 h2 _ => by
    obtain ⟨t1, g1⟩ := at1 j h1
    obtain ⟨t2, g2⟩ := at2 j h2
    rw [g1, g2]
    exact N _ _ _ _ _ _)
  rw [z1, z2] at R
  exact R
theorem eq_ints (I : Inv X pins σ H s) (ht : H t = some (.tup (ns.map V.int))) (hr : H r = some (.tup (ms.map V.int))) (hu : A.units + 64 < cLine) : SeqAt.EqAt A s (.ref t) (.ref r) (decide (ns = ms)) := by
  by_cases e : t = r
  · subst e
    rw [ht] at hr
    have e2 : ns.map V.int = ms.map V.int := by
      injection Option.some.inj hr
    have inj : ∀ a b : List Int, a.map V.int = b.map V.int → a = b := fun a => by
      induction a with
      | nil => intro b h; cases b with | nil => rfl | cons _ _ => cases h
      | cons x xs ih =>
        intro b h
        cases b with
        | nil => cases h
        | cons y ys =>
          rw [List.map_cons, List.map_cons] at h
          injection h with h1 h2
          injection h1 with h3
          rw [h3, ih ys h2]
    rw [decide_eq_true (inj ns ms e2)]
    exact SeqAt.EqAt.same _
  · refine SeqAt.EqAt.of_refs e fun prog w E Q q => ?_
    have D1 : Dp X.K H (.ref t) (.tuple (ns.map PyData.int)) := .tup (SqT.of ht) (dpK ns)
    have D2 : Dp X.K H (.ref r) (.tuple (ms.map PyData.int)) := .tup (SqT.of hr) (dpK ms)
    obtain ⟨as, g1⟩ := Dp.reads I _ _ (.ref t) D1 rfl
    obtain ⟨bs, g2⟩ := Dp.reads I _ _ (.ref r) D2 rfl
    have z := SeqAt.compareEq_shaped (prog := prog) (w := w) (A := A) (E := E) (Q := Q) g1 g2 (shapedT ns) (shapedT ms) hu (by rw [eqvK]; exact q)
    exact z
theorem rc_key {a b : Addr} {z : Bool} (T : TupRule op zz) (N : ∀ (A : Around) (s : Shared) (i j : Int) (t u : Tok), Ob.RcOp op A s (.int i t) (.int j u) (p i j)) (hz : ∀ n, zz n n = z) (I : Inv X pins σ H s) (ha : H a = some (.tup [.int (ns.length : Nat), .ref t])) (hb : H b = some (.tup [.int (ms.length : Nat), .ref r]))
    (ht : H t = some (.tup (ns.map V.int))) (hr : H r = some (.tup (ms.map V.int))) (hu : A.units + 65 < cLine) : Ob.RcOp op A s (.ref a) (.ref b) (kcmp p z ns ms) := by
  obtain ⟨its, r1, p1, _⟩ := I.tuple (SqT.of (K := X.K) ha)
  obtain ⟨its2, r2, p2, _⟩ := I.tuple (SqT.of (K := X.K) hb)
  obtain ⟨u1, u2, rfl, ⟨t1, rfl⟩, q2⟩ := vals2 r1
  obtain ⟨v1, v2, rfl, ⟨t2, rfl⟩, q4⟩ := vals2 r2
  obtain rfl : u2 = Value.ref t := q2
  obtain rfl : v2 = Value.ref r := q4
  have R := T A s a b _ _ (fun j => if j = 0 then decide ((ns.length : Int) = ms.length) else decide (ns = ms))
    (fun j => if j = 0 then p ns.length ms.length else Ob.lexAt (fun j => decide (ns.getD j 0 = ms.getD j 0)) (fun j => p (ns.getD j 0) (ms.getD j 0)) (zz ns.length ms.length) 0 (min ns.length ms.length)) p1 p2 (by omega) (fun j h1 h2 => ?_) (fun j h1 h2 _ => ?_)
  · have e : kcmp p z ns ms = Ob.lexAt (fun j => if j = 0 then decide ((ns.length : Int) = ms.length) else decide (ns = ms))
        (fun j => if j = 0 then p ns.length ms.length else Ob.lexAt (fun j => decide (ns.getD j 0 = ms.getD j 0)) (fun j => p (ns.getD j 0) (ms.getD j 0)) (zz ns.length ms.length) 0 (min ns.length ms.length)) (zz 2 2) 0 2 := by
      rw [Ob.lexAt_succ, Ob.lexAt_succ, Ob.lexAt_zero, hz]
      simp only [if_true, Nat.zero_add, Nat.one_ne_zero, if_false]
      unfold kcmp
      by_cases hl : ns.length = ms.length
      · rw [if_pos hl, if_pos (decide_eq_true (by omega)), ← hl, Nat.min_self, hz]
        by_cases hn : ns = ms
        · rw [if_pos (decide_eq_true hn), hn]
          have self : ∀ l : List Int, lexp p z l l = z := fun l => by
            induction l with
            | nil => rfl
            | cons x xs ih =>
              show (if x = x then lexp p z xs xs else p x x) = z
              rw [if_pos rfl, ih]
          exact self ms
        · rw [if_neg (by rw [decide_eq_false hn]; exact Bool.false_ne_true), lexAt_eq p z ns ms hl]
      · rw [if_neg hl, if_neg (by rw [decide_eq_false (fun e => hl (by omega))]; exact Bool.false_ne_true)]
    rw [e]
    exact R
  · match j, h1 with
    | 0, _ =>
      show SeqAt.EqAt A.in1 s (.int ns.length t1) (.int ms.length t2) (decide ((ns.length : Int) = ms.length))
      have q : (((ns.length : Nat) : Int) == ((ms.length : Nat) : Int)) = decide ((ns.length : Int) = ms.length) := by
        by_cases q : (ns.length : Int) = ms.length
        · rw [decide_eq_true q]; exact beq_iff_eq.mpr q
        · rw [decide_eq_false q]; exact beq_eq_false_iff_ne.mpr q
      rw [← q]
      exact SeqAt.EqAt.int_int _ _ _ _
    | 1, _ => exact eq_ints (A := A.in1) I ht hr (by show A.units + 1 + 64 < cLine; omega)
    | j + 2, h1 => exact absurd h1 (by simp)
  · match j, h1 with
    | 0, _ => exact N _ _ _ _ _ _
    | 1, _ => exact rc_ints (A := A.in1) T N I ht hr (by show A.units + 1 < cLine; omega)
    | j + 2, h1 => exact absurd h1 (by simp)
/-- an order of two such keys -/
def rKey (p : Int → Int → Bool) (z : Bool) : R2 := fun x y H Q => ∃ (a b t r : Addr) (ns ms : List Int), x = .ref a ∧ y = .ref b ∧ H a = some (.tup [.int (ns.length : Nat), .ref t]) ∧ H b = some (.tup [.int (ms.length : Nat), .ref r]) ∧ H t = some (.tup (ns.map V.int)) ∧ H r = some (.tup (ms.map V.int)) ∧ Q (.bl (kcmp p z ns ms)) H
theorem op_key {z : Bool} (T : TupRule op zz) (N : ∀ (A : Around) (s : Shared) (i j : Int) (t u : Tok), Ob.RcOp op A s (.int i t) (.int j u) (p i j)) (hz : ∀ n, zz n n = z) (hu : X.A.units + 65 < cLine) : OpR X (richCompare op) (rKey p z) := by
  intro pins s σ H x y v u Q I rx ry h
  obtain ⟨a, b, t, r, ns, ms, rfl, rfl, ha, hb, ht, hr, q⟩ := h
  obtain rfl : v = Value.ref a := rx
  obtain rfl : u = Value.ref b := ry
  exact rc_key T N hz I ha hb ht hr hu X.prog X.w X.xe _ ⟨.bl _, H, I, rfl, q⟩
end
def oLtK : R2 := fun x y H Q => oLt x y H Q ∨ rKey (fun i j => decide (i < j)) false x y H Q
def oGtK : R2 := fun x y H Q => oGt x y H Q ∨ rKey (fun i j => decide (j < i)) false x y H Q
def oLeK : R2 := fun x y H Q => oLe x y H Q ∨ rKey (fun i j => decide (i ≤ j)) true x y H Q
def oGeK : R2 := fun x y H Q => oGe x y H Q ∨ rKey (fun i j => decide (j ≤ i)) true x y H Q
theorem op_oLtK {X : Cx} (hu : X.A.units + 65 < cLine) : OpR X (compareOp .Lt) oLtK := OpR.or op_oLt (op_key (op := .Lt) (zz := fun m n => decide (m < n)) (fun A s l b i1 i2 e r h1 h2 h3 h4 h5 => Ob.RcOp.tuples_lt h1 h2 h3 h4 h5) (fun _ _ i j t u => Ob.RcOp.lt_int i j t u) (fun n => decide_eq_false (Nat.lt_irrefl n)) hu)
theorem op_oGtK {X : Cx} (hu : X.A.units + 65 < cLine) : OpR X (compareOp .Gt) oGtK := OpR.or op_oGt (op_key (op := .Gt) (zz := fun m n => decide (m > n)) (fun A s l b i1 i2 e r h1 h2 h3 h4 h5 => Ob.RcOp.tuples_gt h1 h2 h3 h4 h5) (fun _ _ i j t u => Ob.RcOp.gt_int i j t u) (fun n => decide_eq_false (Nat.lt_irrefl n)) hu)
theorem op_oLeK {X : Cx} (hu : X.A.units + 65 < cLine) : OpR X (compareOp .LtE) oLeK := OpR.or op_oLe (op_key (op := .LtE) (zz := fun m n => decide (m ≤ n)) (fun A s l b i1 i2 e r h1 h2 h3 h4 h5 => Ob.RcOp.tuples_le h1 h2 h3 h4 h5) (fun _ _ i j t u => Ob.RcOp.le_int i j t u) (fun n => decide_eq_true (Nat.le_refl n)) hu)
theorem op_oGeK {X : Cx} (hu : X.A.units + 65 < cLine) : OpR X (compareOp .GtE) oGeK := OpR.or op_oGe (op_key (op := .GtE) (zz := fun m n => decide (m ≥ n)) (fun A s l b i1 i2 e r h1 h2 h3 h4 h5 => Ob.RcOp.tuples_ge h1 h2 h3 h4 h5) (fun _ _ i j t u => Ob.RcOp.ge_int i j t u) (fun n => decide_eq_true (Nat.le_refl n)) hu)
end Ov

set_option Elab.async false
set_option linter.all false
set_option maxRecDepth 100000
set_option maxHeartbeats 2000000
namespace Ov
open PySem PySem.Spec PyProof.Rows L2
section
variable {X : Cx}
/-! ### sorted(d, key=str) -/
theorem str_key (prog : Program) (w : World) (A : Around) (s : Shared) (x : Str) (t : Tok) : wpAny (model prog w) A (call (.type "str") [.str x t]) (PySem.W.KeyPure (.str x) s) (fun _ _ => False) s :=
  PySem.P.str_of_str ⟨s.heap, s.toks, rfl, fun _ _ e => e, .str x t⟩
theorem strs_each : ∀ {vs : List Value} {ks : List Str}, StrsAre vs ks → PySem.W.EachIs (fun v (x : Str) => ∃ t, v = Value.str x t) vs ks
  | [], [], _ => .nil
  | [], _ :: _, h => by cases h.length
  | _ :: _, [], h => by cases h.length
  | v :: vs, k :: ks, h => by
    obtain ⟨t, vs', e, h'⟩ := h.cons_inv
    cases e
    exact .cons ⟨t, rfl⟩ (strs_each h')
theorem each_vals : ∀ {vs : List Value} {ks : List Str}, PySem.W.EachIs (fun v (x : Str) => ∃ t, v = Value.str x t) vs ks → Vals (ks.map V.str) vs
  | [], [], _ => .nil
  | v :: vs, k :: ks, h => by
    cases h with
    | cons h1 h2 => exact .cons h1 (each_vals h2)
def rSortDK : List V → List V → Hp → VK → Prop := fun vs zs H Q => ∃ (a : Addr) (kvs : List (Key × V)) (ks : List Str), vs = [.ref a] ∧ zs = [.ty "str"] ∧ Rd H a (.dK kvs) ∧ kvs.map (·.1) = ks.map Sum.inr ∧ ks.length < 64 ∧
  ∀ ys p, ys.Perm ks → sortedS ys = true → H p = none → Q (.ref p) (upd H p (.lst (ys.map V.str)))
theorem cr_sortDK (hcalm : X.calm = true) (hu : X.A.units + 2 < cLine) : CallRK X (.builtin "sorted") [Str.ofString "key"] rSortDK := by
  intro pins s σ H vs zs us ws Q I r rz q
  obtain ⟨a, kvs, ks, rfl, rfl, hd, hks, h64, q⟩ := q
  obtain rfl := Vals.ref1 r
  obtain ⟨w1, rfl, e1⟩ := vals1 rz
  obtain rfl : w1 = Value.type "str" := e1
  obtain ⟨z, lo, vs, rel, dd⟩ := dk_rd I.hok hd
  obtain ⟨ep, hat⟩ := dd.dictAt
  have hkeys : vs.map (·.1) = ks.map Sum.inr := rel.keys.symm.trans hks
  have hl : vs.length = ks.length := by
    have e := congrArg List.length hkeys
    rw [List.length_map, List.length_map] at e
    exact e
  have h16 : vs.length ≤ sizeLine := by rw [hl, sizeLine_eq]; omega
  refine call_function_entry_kw PyProof.Rows.kind_sorted PyProof.Rows.plain_sorted PyProof.Rows.entry_sorted (ksk_s1 _ _) ?_
  unfold Builtin.«sorted»
  refine wpAny_bind (m := checkCount "sorted" 1 1 _) (wpAny_pure ?_)
  refine wpAny_bind (PySem.W.kdu_collect (A := X.A.in1) (PySem.W.kdl_dict (knd := mixKind X.prog X.w) (kvs := vs) (ep := ep) lo) (I.ok.hd hcalm) hat h16 fun h' tk acc hk hacc => ?_)
  have hal : acc.toList.length = ks.length := by rw [Array.length_toList, hacc.1, hl]
  have hS : StrsAre acc.toList ks := strs_at hal fun j v e => by
    obtain ⟨k, x, e1, e2⟩ := hacc.2 j v (by rw [← Array.getElem?_toList]; exact e)
    have e3 : (vs.map (·.1))[j]? = some k := by rw [List.getElem?_map, e1]; all_goals rfl
    rw [hkeys, List.getElem?_map] at e3
    cases e4 : ks[j]? with
    | none => rw [e4] at e3; cases e3
    | some y =>
      rw [e4] at e3
      have e5 : Sum.inr y = k := Option.some.inj e3
      subst e5
      obtain ⟨t, ev⟩ := Value.isStrOf_shape (x := y) (v := v) e2
      exact ⟨y, t, rfl, ev⟩
  have I1 : Inv X pins σ H { s with heap := h', toks := tk } := I.kept hk
  refine wpAny_bind (wpAny_newList ?_ (by rw [hal, sizeLine_eq]; omega))
  have hoL : (h'.push (seqObj "list" acc.toList.toArray 0)).get? h'.objs.size = some (seqObj "list" acc.toList.toArray 0) := Heap.get?_push_size _ rfl
  show wpAny _ _ _ _ _ { s with heap := h'.push (seqObj "list" acc.toList.toArray 0), toks := tk }
  have hE := strs_each hS
  refine wpAny_bind (wpAny_holding (wpAny_call_entry_kw PyProof.Rows.slot_list_sort ⟨_, hoL, rfl⟩ PyProof.Rows.entry_list_sort ?_ (ksk_l1 _ _)))
  show wpAny _ _ (ksk_tree h'.objs.size (.type "str") false) _ _ _
  refine PySem.W.keyH_tree (kz := ks.map PyData.str) (s := { s with heap := h'.push (seqObj "list" acc.toList.toArray 0), toks := tk }) hoL (by rw [List.length_map, hal]) (by rw [hal, sizeLine_eq]; omega)
    (PySem.W.AllAlike.of fun _ _ => by simp [PySem.W.alike]) (PySem.W.Sortable.others fun _ => ⟨by simp, by simp⟩) (fun d hd => ?_)
    (PySem.W.keyH_turns (k := PyData.str) (s := { s with heap := h'.push (seqObj "list" acc.toList.toArray 0), toks := tk }) hE fun v x hR hx h tk kp => ?_) fun h3 tk3 out c kp hD ko => ⟨_, rfl, ?_⟩
  · obtain ⟨x, _, rfl⟩ := List.mem_map.mp hd
    show X.A.units + 1 + 1 + 0 < cLine
    omega
  · obtain ⟨t, rfl⟩ := hR
    exact str_key _ _ _ _ _ _
  · have eo := PySem.W.keyedOut_each PyData.str ko hE
    have el : PySem.W.dataLe false PyData.str = fun a b : Str => decide (a.cps.toList ≤ b.cps.toList) := PySem.W.dataLe_str (β := Str) fun x => x
    rw [el] at eo
    have hp := List.mergeSort_perm ks fun a b : Str => decide (a.cps.toList ≤ b.cps.toList)
    have hs : sortedS (ks.mergeSort fun a b : Str => decide (a.cps.toList ≤ b.cps.toList)) = true := by
      refine sortedS_of_pairwise _ ((List.pairwise_mergeSort (le := fun a b : Str => decide (a.cps.toList ≤ b.cps.toList)) ?_ ?_ ks).imp fun {a b} h => ?_)
      · intro a b c h1 h2
        exact decide_eq_true (List.le_trans (of_decide_eq_true h1) (of_decide_eq_true h2))
      · intro a b
        rw [Bool.or_eq_true]
        rcases List.le_total a.cps.toList b.cps.toList with h | h
        · exact .inl (decide_eq_true h)
        · exact .inr (decide_eq_true h)
      · rw [ltCps_eq]
        exact decide_eq_false (of_decide_eq_true h)
    have hv := each_vals eo
    have hlen : ((ks.mergeSort fun a b : Str => decide (a.cps.toList ≤ b.cps.toList)).map V.str).length ≤ sizeLine := by
      rw [List.length_map, hp.length_eq, sizeLine_eq]
      omega
    refine wpAny_pure ⟨_, rfl, .ref h'.objs.size, upd H h'.objs.size (.lst ((ks.mergeSort fun a b : Str => decide (a.cps.toList ≤ b.cps.toList)).map V.str)), I1.laid (t' := tk3) (fun b u e => ?_) (Nat.le_refl _)
      (show ObjOk X.prog X.w _ _ _ (.lst _) from ⟨hlen, out, c, hv, hD⟩), rfl, q _ _ hp hs (I1.hok.fresh (Nat.le_refl _))⟩
    have hb : b < h'.objs.size := Heap.lt_size e
    exact kp b u (Nat.ne_of_lt hb) (Heap.get?_push_of_some _ e)
/-! ### a tuple whose object is known -/
def PlainT (o : Obj) : Prop := o.cls = .type "tuple" ∧ o.dict = none
def cTupF (K : PySem.W.Frag) : List V → Hp → VK → Prop := fun xs H Q => ∃ p ys, xs = [.ref p] ∧ SqL K H p ys ∧ ∀ l o, H l = none → PlainT o → Q (.ref l) (upd H l (.frz o (.tup ys)))
theorem call_cTupF : CallR X (.type "tuple") (cTupF X.K) := by
  intro pins s σ H xs us Q I r h
  obtain ⟨p, ys, rfl, hq, q⟩ := h
  obtain ⟨u, rfl, rx⟩ := vals1 r
  cases rx
  obtain ⟨its, r', pl, hz⟩ := I.list hq
  have hlen := r'.length
  refine call_tuple_list pl.isList (fun h' kp => ?_) (by simp only [List.size_toArray] <;> omega)
  have I1 : Inv X pins σ H { s with heap := h' } := I.kept (t' := s.toks) kp
  have I2 : Inv X pins σ (upd H h'.objs.size (.frz { cls := .type "tuple", data := .seq its.toArray } (.tup ys))) { s with heap := h'.push { cls := .type "tuple", data := .seq its.toArray } } :=
    I1.laid (t' := s.toks) (fun b o e => Heap.get?_push_of_some _ e) (Nat.le_refl _) (show ObjOk X.prog X.w _ _ _ (.frz _ (.tup ys)) from ⟨Heap.get?_push_size _ rfl, hz, its, r', IsTup.new _ _⟩)
  exact ⟨.ref h'.objs.size, _, I2, rfl, q _ _ (I1.hok.fresh (Nat.le_refl _)) ⟨rfl, rfl⟩⟩
/-! ### dict of a tuple of pairs -/
theorem pairs_of2 {pins : List (Addr × Obj)} {σ : L2.St} {H : Hp} {s : Shared} (I : Inv X pins σ H s) : ∀ {ps : List Addr} {kvs : List (Key × V)}, Paired (fun p kv => SqT X.K H p [kV kv.1, kv.2]) ps kvs →
    ∃ (prs : List (Key × Value)) (ws : List (Value × Value)), KV kvs prs ∧ prs.length = ps.length ∧ ws.length = ps.length ∧ ∀ (j : Nat) (k v : Value), ws[j]? = some (k, v) → ∃ (b : Addr) (key : Key), ps[j]? = some b ∧ prs[j]? = some (key, v) ∧ IsTup s.heap b #[k, v] ∧ keyIs key k = true
  | _, _, .nil => ⟨[], [], .nil, rfl, rfl, fun j k v e => by simp at e⟩
  | _, _, .cons (a := p) (b := kv) h t => by
    obtain ⟨prs, ws, r, hl, hl2, hp⟩ := pairs_of2 I t
    obtain ⟨its, rv, ht, _⟩ := I.tuple h
    obtain ⟨u, y, ei, ru, ry⟩ := vals2 rv
    subst ei
    refine ⟨(kv.1, y) :: prs, (u, y) :: ws, .cons ⟨rfl, ry⟩ r, by rw [List.length_cons, List.length_cons, hl], by rw [List.length_cons, List.length_cons, hl2], fun j k v e => ?_⟩
    cases j with
    | zero =>
      have e' : (u, y) = (k, v) := Option.some.inj e
      injection e' with e1 e2
      subst e1 e2
      exact ⟨p, kv.1, rfl, rfl, ht, kV_is (P := X.prog) (w := X.w) ru⟩
    | succ j =>
      obtain ⟨b, key, e1, e2, e3⟩ := hp j k v (by simpa using e)
      exact ⟨b, key, by simpa using e1, by simpa using e2, e3⟩
def rDictT (K : PySem.W.Frag) : List V → Hp → VK → Prop := fun xs H Q => ∃ (a : Addr) (o : Obj) (ps : List Addr) (kvs : List (Key × V)), xs = [.ref a] ∧ H a = some (.frz o (.tup (ps.map V.ref))) ∧ PlainT o ∧ Paired (fun p kv => SqT K H p [kV kv.1, kv.2]) ps kvs ∧
  ∀ p, H p = none → Q (.ref p) (upd H p (.dK (mergeK [] kvs)))
theorem call_dictT (hcalm : X.calm = true) : CallR X (.type "dict") (rDictT X.K) := by
  intro pins s σ H xs us Q I r h
  obtain ⟨a, o, ps, kvs, rfl, ha, ⟨pc, pd⟩, hp, q⟩ := h
  obtain ⟨u, rfl, rx⟩ := vals1 r
  cases rx
  obtain ⟨ho, hz, its, rv, ht⟩ : s.heap.get? a = some o ∧ ObjOk X.prog X.w H s.heap a (.tup (ps.map V.ref)) := I.hok a _ ha
  have ei := refs_at rv
  subst ei
  rw [List.length_map] at hz
  obtain ⟨prs, ws, rel, hl, hl2, hpr⟩ := pairs_of2 I hp
  obtain ⟨o', ho', hc, n, hdat⟩ := ht
  rw [ho] at ho'
  obtain rfl := Option.some.inj ho'
  have P := PairArg.tuple (prog := X.prog) (w := X.w) a (ps.map Value.ref).toArray (fun j => ps.getD j 0) ws
  refine PySem.call_dict_pairs (knd := mixKind X.prog X.w) (kvs := prs) P (I.ok.hd hcalm) ⟨⟨o, n, ho, hc, pd, hdat⟩, by simp [hl2], fun j k v e => ?_⟩ ⟨by rw [hl, hl2], fun i key v e => ?_⟩ (by rw [hl2]; exact hz) fun h' tk hd' k => ?_
  · obtain ⟨b, key, e1, e2, e3, e4⟩ := hpr j k v e
    have eb : ps.getD j 0 = b := by rw [List.getD_eq_getElem?_getD, e1]; rfl
    refine ⟨by simp [e1], ?_⟩
    show PairAt s.heap (ps.getD j 0) k v
    rw [eb]
    exact .inl e3
  · obtain ⟨b, k, e1, e2, e3, e4⟩ := hpr i key v e
    exact ⟨k, e2, e4⟩
  · have hm : (s.heap.objs.size == sysModules) = false := beq_eq_false_iff_ne.mpr (Nat.ne_of_gt I.big)
    have hlen : (mergeK [] kvs).length ≤ sizeLine := by
      refine Nat.le_trans (length_mergeK kvs []) ?_
      rw [List.length_nil, Nat.zero_add, rel.length, hl]
      exact hz
    exact ⟨.ref s.heap.objs.size, upd H s.heap.objs.size (.dK (mergeK [] kvs)), I.laid (t' := tk) (fun b u e => k b u (fun z => nomatch z) e) (Nat.le_refl _) (show ObjOk X.prog X.w _ _ _ (.dK (mergeK [] kvs)) from ⟨hlen, hm, merged [] prs, KV.merge rel .nil, hd'⟩), rfl, q _ (I.hok.fresh (Nat.le_refl _))⟩
/-- list(d): its keys -/
def cListD : List V → Hp → VK → Prop := fun xs H Q => ∃ (a : Addr) (kvs : List (Key × V)), xs = [.ref a] ∧ Rd H a (.dK kvs) ∧ ∀ p, H p = none → Q (.ref p) (upd H p (.lst (kvs.map fun kv => kV kv.1)))
theorem call_cListD (hcalm : X.calm = true) : CallR X (.type "list") cListD := call_listD hcalm
theorem hu2 {A : Around} (h : A.units + 65 < cLine) : A.units + 2 < cLine := by omega
end
end Ov

set_option Elab.async false
set_option linter.all false
set_option maxRecDepth 100000
set_option maxHeartbeats 2000000
namespace Ov
open PySem PySem.Spec PyProof.Rows L2
/-! ### defs that take a caught error: its fields, and calls of other such defs -/
theorem pe_xfP {X : Cx} {a C : Addr} {oe : Obj} {cls : Value} {d : Option Addr} {e : Expr} {te : TE} {pos : Pos} {n : Str} (hp : (a, oe) ∈ X.pn) (T : XfC X.K C) (hno : PySem.W.findIn X.K (.ref C) n = some none)
    (hz : Zc cls d oe) (hf : ∃ vs, oe.data = .fields vs) (he : PE X e te) (hb : attributeBase e n X.env (eval e X.env) = eval e X.env := by rfl) : PE X (.Attribute e n pos) (tXf a cls d C n te) := by
  refine ⟨fun pins s σ H Q I h => ?_⟩
  refine attr_of hb (thn (he.run pins s σ H _ I h) fun u s1 hh => ?_)
  obtain ⟨x, H1, I1, rx, ex, ec, dd, fs, v, ed, ea, l, q⟩ := hh
  subst ex
  obtain rfl : u = Value.ref a := rx
  subst ec
  subst ed
  obtain ⟨ha, _⟩ := I1.pin (a, oe) (List.mem_append_left _ hp)
  obtain ⟨vs, hd⟩ := hf
  have hx : ObjOk X.prog X.w H1 s1.heap dd (.xd fs) := I1.hok dd _ ea
  obtain ⟨mA, hns, hr⟩ := hx
  obtain ⟨od, ho, hl⟩ := lookIn_ns hns
  obtain ⟨u, hu, ru⟩ := RelO.some_of (v := v) (o := mA n) (by rw [← l]; exact hr n)
  have J : PySem.W.InstAt s1.heap a oe C (some od) := ⟨ha, hz.1, by unfold PySem.W.notCls; rw [hd] <;> rfl, by rw [hz.2]; exact ho⟩
  exact HandSPX.exc_get I1.kIn J T.ga T.gg T.exC (PySem.W.findObj_own T.hdC hno rfl (by rw [hl, hu])) (handed_of ru) ⟨v, H1, I1.tok _, ru, q⟩
theorem pe_callXP {X : Cx} {k : Nat} {x : Str} {ps : List Str} {sp : SpX} {a : Addr} {oe : Obj} {cls : Value} {d : Option Addr} {q pos : Pos} {e : Expr} {es : List Expr} {t : TA} (hp : (a, oe) ∈ X.pn) (c : CalX X.prog X.w X.K X.mg X.base k x ps sp) (hr : L2H.RoomH k X.A)
    (hz : Zc cls d oe) (hf : ∃ ws, oe.data = .fields ws) (hg : Gl X x) (ha : PA X (e :: es) t) (hdb : (x == ("__debug__" : Str)) = false := by decide)
    (he : starEach (e :: es) X.env = (false, eval e X.env) :: starEach es X.env := by rfl) (hpl : (backTo pos (starEach es X.env)).any (·.1) = false := by rfl) : PE X (.Call (.Name x q) (e :: es) [] pos) (tCallX sp a cls d t) := by
  obtain ⟨f, fd, F, m, kp, b⟩ := c
  refine ⟨fun pins s σ H Q I h => wpAny_Call_Name_kw (ld_glob I hg m ?_ hdb)⟩
  refine PySem.W.callWith_K (h₀ := X.base) I.ok.mod.kin kp (thn (ha.run pos pins s σ H _ I h) fun us s1 ⟨vs, H1, I1, r, z⟩ => ⟨I1.kIn, ?_⟩) he hpl
  have hl : us.length = ps.length := by rw [← r.length]; exact F.len _ _ _ _ _ _ _ z
  have bd := b s1 us I1.kIn (by simpa using hl)
  have P1 := I1.pin (a, oe) (List.mem_append_left _ hp)
  have hpin : L2H.PinOk X.stack H1 s1 (a, oe) := ⟨P1.1, P1.2.1, fun hm => (List.mem_cons.mp (I1.stkSub a hm)).elim P1.2.2.1 P1.2.2.2.1, P1.2.2.2.2⟩
  refine wpAny_call (codeAny_mono (F.run X.A _ s1 H1 ⟨us, []⟩ us vs Q E0 a oe cls d hr hpin hz hf I1.env0 (by simpa using bd) r z) fun r s' y => ?_)
  cases r with
  | error e => exact y.elim
  | ok fl =>
    cases fl with
    | ret u => exact I1.after y
    | next => exact y.elim
    | brk => exact y.elim
    | cont => exact y.elim
/-! ### the truth of a tuple -/
def tTruth (K : PySem.W.Frag) (ta : TE) : TT := fun σ H Q => ta σ H fun x H' => ∃ k, TruV K x H' k ∧ Q k H'
theorem pt_tru {X : Cx} {a : Expr} {ta : TE} (ha : PE X a ta) (he : ∀ whole, isTrue a X.env whole = (do let v ← whole; standAt a.pos; holding [v] (truthy v))) : PT X a (tTruth X.K ta) := pt_truth ha he
theorem an_truT {K : PySem.W.Frag} {σ : L2.St} {H : Hp} {te : TE} {p : Addr} {xs : List V} (h : Val te σ H (.ref p)) (hp : H p = some (.tup xs)) : Ans (tTruth K te) σ H (!xs.isEmpty) := fun Q q => h _ ⟨_, (show (∃ xs, SqL K H p xs ∧ _) ∨ (∃ xs, SqT K H p xs ∧ _) ∨ _ from .inr (.inl ⟨xs, SqT.of hp, rfl⟩)), q⟩
theorem q_notInK {K : PySem.W.Frag} {H : Hp} {Q : VK} {p : Addr} {k : Key} {kvs : List (Key × V)} (hp : H p = some (.dK kvs)) (h : Q (.bl (!(valV kvs k).isSome)) H) : oNotInX K (kV k) (.ref p) H Q := .inr ⟨p, _, rfl, DGet.k hp, h⟩
end Ov

set_option Elab.async false
set_option linter.all false
set_option maxRecDepth 100000
set_option maxHeartbeats 2000000
namespace Ov
open PySem PySem.Spec PyProof.Rows L2
structure Ad where
  c_BadAction : Addr
  c_BadKind : Addr
  c_BadName : Addr
  c_BadNumber : Addr
  c_BadStatement : Addr
  c_Book : Addr
  c_Clash : Addr
  c_DeedError : Addr
  c_UnknownCell : Addr
  c_UnknownStep : Addr
  i_BadAction : Addr
  i_BadNumber : Addr
  i_Clash : Addr
  i_UnknownCell : Addr
  i_UnknownStep : Addr
  t_CELL_SIZES : Addr
  t_CELL_WORDS : Addr
  t_GUARDS : Addr
  t_KINDS_WITH_NAME : Addr
  t_KINDS_WITH_NUMBER : Addr


abbrev g_GREATEST_DEPTH : V := .int 2
abbrev g_GREATEST_NUMBER : V := .int 999



abbrev g_LETTERS : V := .str "abcdefghijklmnopqrstuvwxyz"
abbrev g_LETTERS_AND_DIGITS : V := .str "abcdefghijklmnopqrstuvwxyz0123456789"
abbrev g_LONGEST_NAME : V := .int 12
abbrev g_MOST_FURTHER : V := .int 3
structure Caught (K : PySem.W.Frag) (A : Ad) : Prop where
  xf_BadAction : XfC K A.c_BadAction
  x_BadAction : ExcC K A.c_BadAction
  xf_BadNumber : XfC K A.c_BadNumber
  x_BadNumber : ExcC K A.c_BadNumber
  xf_UnknownCell : XfC K A.c_UnknownCell
  x_UnknownCell : ExcC K A.c_UnknownCell
  xf_UnknownStep : XfC K A.c_UnknownStep
  x_UnknownStep : ExcC K A.c_UnknownStep
  m_BadAction__DeedError : PySem.W.exmOne K (.ref A.c_BadAction) (.ref A.c_DeedError) = some true
  m_BadNumber__DeedError : PySem.W.exmOne K (.ref A.c_BadNumber) (.ref A.c_DeedError) = some true
  m_UnknownCell__DeedError : PySem.W.exmOne K (.ref A.c_UnknownCell) (.ref A.c_DeedError) = some true
  m_UnknownStep__DeedError : PySem.W.exmOne K (.ref A.c_UnknownStep) (.ref A.c_DeedError) = some true
  o_Book : InsC K A.c_Book
  io_Book : PySem.W.kitOne K (.ref A.c_Book) (.ref A.c_Book) = some true
  k_BadAction__BadAction : PySem.W.kitOne K (.ref A.c_BadAction) (.ref A.c_BadAction) = some true
  k_BadAction__BadKind : PySem.W.kitOne K (.ref A.c_BadAction) (.ref A.c_BadKind) = some false
  k_BadAction__BadName : PySem.W.kitOne K (.ref A.c_BadAction) (.ref A.c_BadName) = some false
  k_BadAction__BadNumber : PySem.W.kitOne K (.ref A.c_BadAction) (.ref A.c_BadNumber) = some false
  k_BadAction__BadStatement : PySem.W.kitOne K (.ref A.c_BadAction) (.ref A.c_BadStatement) = some false
  k_BadAction__DeedError : PySem.W.kitOne K (.ref A.c_BadAction) (.ref A.c_DeedError) = some true
  k_BadAction__UnknownCell : PySem.W.kitOne K (.ref A.c_BadAction) (.ref A.c_UnknownCell) = some false
  k_BadAction__UnknownStep : PySem.W.kitOne K (.ref A.c_BadAction) (.ref A.c_UnknownStep) = some false
  k_BadAction__ValueError : PySem.W.kitOne K (.ref A.c_BadAction) (.type "ValueError") = some true
  k_BadNumber__BadAction : PySem.W.kitOne K (.ref A.c_BadNumber) (.ref A.c_BadAction) = some false
  k_BadNumber__BadKind : PySem.W.kitOne K (.ref A.c_BadNumber) (.ref A.c_BadKind) = some false
  k_BadNumber__BadName : PySem.W.kitOne K (.ref A.c_BadNumber) (.ref A.c_BadName) = some false
  k_BadNumber__BadNumber : PySem.W.kitOne K (.ref A.c_BadNumber) (.ref A.c_BadNumber) = some true
  k_BadNumber__BadStatement : PySem.W.kitOne K (.ref A.c_BadNumber) (.ref A.c_BadStatement) = some false
  k_BadNumber__DeedError : PySem.W.kitOne K (.ref A.c_BadNumber) (.ref A.c_DeedError) = some true
  k_BadNumber__UnknownCell : PySem.W.kitOne K (.ref A.c_BadNumber) (.ref A.c_UnknownCell) = some false
  k_BadNumber__UnknownStep : PySem.W.kitOne K (.ref A.c_BadNumber) (.ref A.c_UnknownStep) = some false
  k_BadNumber__ValueError : PySem.W.kitOne K (.ref A.c_BadNumber) (.type "ValueError") = some true
  k_UnknownCell__BadAction : PySem.W.kitOne K (.ref A.c_UnknownCell) (.ref A.c_BadAction) = some false
  k_UnknownCell__BadKind : PySem.W.kitOne K (.ref A.c_UnknownCell) (.ref A.c_BadKind) = some false
  k_UnknownCell__BadName : PySem.W.kitOne K (.ref A.c_UnknownCell) (.ref A.c_BadName) = some false
  k_UnknownCell__BadNumber : PySem.W.kitOne K (.ref A.c_UnknownCell) (.ref A.c_BadNumber) = some false
  k_UnknownCell__BadStatement : PySem.W.kitOne K (.ref A.c_UnknownCell) (.ref A.c_BadStatement) = some false
  k_UnknownCell__DeedError : PySem.W.kitOne K (.ref A.c_UnknownCell) (.ref A.c_DeedError) = some true
  k_UnknownCell__UnknownCell : PySem.W.kitOne K (.ref A.c_UnknownCell) (.ref A.c_UnknownCell) = some true
  k_UnknownCell__UnknownStep : PySem.W.kitOne K (.ref A.c_UnknownCell) (.ref A.c_UnknownStep) = some false
  k_UnknownCell__ValueError : PySem.W.kitOne K (.ref A.c_UnknownCell) (.type "ValueError") = some true
  k_UnknownStep__BadAction : PySem.W.kitOne K (.ref A.c_UnknownStep) (.ref A.c_BadAction) = some false
  k_UnknownStep__BadKind : PySem.W.kitOne K (.ref A.c_UnknownStep) (.ref A.c_BadKind) = some false
  k_UnknownStep__BadName : PySem.W.kitOne K (.ref A.c_UnknownStep) (.ref A.c_BadName) = some false
  k_UnknownStep__BadNumber : PySem.W.kitOne K (.ref A.c_UnknownStep) (.ref A.c_BadNumber) = some false
  k_UnknownStep__BadStatement : PySem.W.kitOne K (.ref A.c_UnknownStep) (.ref A.c_BadStatement) = some false
  k_UnknownStep__DeedError : PySem.W.kitOne K (.ref A.c_UnknownStep) (.ref A.c_DeedError) = some true
  k_UnknownStep__UnknownCell : PySem.W.kitOne K (.ref A.c_UnknownStep) (.ref A.c_UnknownCell) = some false
  k_UnknownStep__UnknownStep : PySem.W.kitOne K (.ref A.c_UnknownStep) (.ref A.c_UnknownStep) = some true
  k_UnknownStep__ValueError : PySem.W.kitOne K (.ref A.c_UnknownStep) (.type "ValueError") = some true
  t_CELL_SIZES : ∀ H : Hp, SqT K H A.t_CELL_SIZES [.int 2, .int 3]
  t_CELL_WORDS : ∀ H : Hp, SqT K H A.t_CELL_WORDS [.str "now", .str "late"]
  t_GUARDS : ∀ H : Hp, SqT K H A.t_GUARDS [.str "done", .str "error", .str "always"]
  t_KINDS_WITH_NAME : ∀ H : Hp, SqT K H A.t_KINDS_WITH_NAME [.str "jump", .str "swap"]
  t_KINDS_WITH_NUMBER : ∀ H : Hp, SqT K H A.t_KINDS_WITH_NUMBER [.str "answer", .str "heal"]
/-! ### promises by their arguments -/
def Sp1 (φ : V → Hp → VK → XK → Prop) : Sp := fun vs H Q E => ∃ a, vs = [a] ∧ φ a H Q E
def Sp0 (φ : Hp → VK → XK → Prop) : Sp := fun vs H Q E => vs = [] ∧ φ H Q E
def Sp2 (φ : V → V → Hp → VK → XK → Prop) : Sp := fun vs H Q E => ∃ a b, vs = [a, b] ∧ φ a b H Q E
def Sp3 (φ : V → V → V → Hp → VK → XK → Prop) : Sp := fun vs H Q E => ∃ a b c, vs = [a, b, c] ∧ φ a b c H Q E
def Sp4 (φ : V → V → V → V → Hp → VK → XK → Prop) : Sp := fun vs H Q E => ∃ a b c d, vs = [a, b, c, d] ∧ φ a b c d H Q E
def Sp5 (φ : V → V → V → V → V → Hp → VK → XK → Prop) : Sp := fun vs H Q E => ∃ a b c d e, vs = [a, b, c, d, e] ∧ φ a b c d e H Q E
section
variable {vs : List V} {H : Hp} {Q : VK} {E : XK}
theorem len0 {φ} (h : Sp0 φ vs H Q E) : vs.length = 0 := by obtain ⟨rfl, _⟩ := h; rfl
theorem len1 {φ} (h : Sp1 φ vs H Q E) : vs.length = 1 := by obtain ⟨_, rfl, _⟩ := h; rfl
theorem len2 {φ} (h : Sp2 φ vs H Q E) : vs.length = 2 := by obtain ⟨_, _, rfl, _⟩ := h; rfl
theorem len3 {φ} (h : Sp3 φ vs H Q E) : vs.length = 3 := by obtain ⟨_, _, _, rfl, _⟩ := h; rfl
theorem len4 {φ} (h : Sp4 φ vs H Q E) : vs.length = 4 := by obtain ⟨_, _, _, _, rfl, _⟩ := h; rfl
theorem len5 {φ} (h : Sp5 φ vs H Q E) : vs.length = 5 := by obtain ⟨_, _, _, _, _, rfl, _⟩ := h; rfl
theorem s0 {φ : Hp → VK → XK → Prop} (h : φ H Q E) : Sp0 φ ([] ++ []) H Q E := ⟨rfl, h⟩
theorem s1 {a : V} {φ : V → Hp → VK → XK → Prop} (h : φ a H Q E) : Sp1 φ ([a] ++ []) H Q E := ⟨_, rfl, h⟩
theorem s2 {a b : V} {φ : V → V → Hp → VK → XK → Prop} (h : φ a b H Q E) : Sp2 φ ([a, b] ++ []) H Q E := ⟨_, _, rfl, h⟩
theorem s3 {a b c : V} {φ : V → V → V → Hp → VK → XK → Prop} (h : φ a b c H Q E) : Sp3 φ ([a, b, c] ++ []) H Q E := ⟨_, _, _, rfl, h⟩
theorem s4 {a b c d : V} {φ : V → V → V → V → Hp → VK → XK → Prop} (h : φ a b c d H Q E) : Sp4 φ ([a, b, c, d] ++ []) H Q E := ⟨_, _, _, _, rfl, h⟩
theorem s5 {a b c d e : V} {φ : V → V → V → V → V → Hp → VK → XK → Prop} (h : φ a b c d e H Q E) : Sp5 φ ([a, b, c, d, e] ++ []) H Q E := ⟨_, _, _, _, _, rfl, h⟩
end
/-! ### heaps that differ at one place alone -/
def OffP (p : Addr) (H H' : Hp) : Prop := ∀ q, q ≠ p → H' q = H q
theorem OffP.upd {p : Addr} {H : Hp} {o : HO} : OffP p H (upd H p o) := fun _ h => upd_ne h
theorem OffP.to {p q : Addr} {H H' : Hp} {o : Option HO} (a : OffP p H H') (h : H q = o) (ne : q ≠ p) : H' q = o := (a q ne).trans h
/-- the list at p begins with the same list -/
def Hd (p : Addr) (H H' : Hp) : Prop := ∀ l r, H p = some (.lst (.ref l :: r)) → ∃ r', H' p = some (.lst (.ref l :: r'))
theorem Hd.refl {p : Addr} {H : Hp} : Hd p H H := fun _ r h => ⟨r, h⟩
theorem Hd.trans {p : Addr} {H H1 H2 : Hp} (a : Hd p H H1) (b : Hd p H1 H2) : Hd p H H2 := fun l r h => by
  obtain ⟨r1, h1⟩ := a l r h
  exact b l r1 h1
structure Off (p : Addr) (H H' : Hp) : Prop where
  at_ : ∀ q, q ≠ p → H' q = H q
  hd : Hd p H H'
theorem Off.refl {p : Addr} {H : Hp} : Off p H H := ⟨fun _ _ => rfl, .refl⟩
theorem Off.trans {p : Addr} {H H1 H2 : Hp} (a : Off p H H1) (b : Off p H1 H2) : Off p H H2 := ⟨fun q h => (b.at_ q h).trans (a.at_ q h), a.hd.trans b.hd⟩
theorem Off.to {p q : Addr} {H H' : Hp} {o : Option HO} (a : Off p H H') (h : H q = o) (ne : q ≠ p) : H' q = o := (a.at_ q ne).trans h
/-! ### the pool of draws -/
structure Pool (H : Hp) (p : Addr) : Prop where
  ex : ∃ (l : Addr) (cs : List Int) (a b c d : Int), H p = some (.lst [.ref l, .int a, .int b, .int c, .int d]) ∧ H l = some (.lst (cs.map V.int)) ∧ l ≠ p ∧ 0 ≤ a ∧ 0 ≤ c ∧ c < 10 ^ 18 ∧ d ≤ 7
theorem Pool.off {H H' : Hp} {p q : Addr} (P : Pool H p) (o : OffP q H H') (hq : ∀ xs, H q ≠ some (.lst xs)) : Pool H' p := by
  obtain ⟨l, cs, a, b, c, d, hp, hl, ne, h⟩ := P
  exact ⟨l, cs, a, b, c, d, o.to hp (fun e => hq _ (e ▸ hp)), o.to hl (fun e => hq _ (e ▸ hl)), ne, h⟩
theorem Pool.new {H : Hp} {p q : Addr} {o : HO} (P : Pool H p) (hq : H q = none) : Pool (L2.upd H q o) p := P.off OffP.upd fun xs e => by rw [hq] at e; cases e
/-- what a draw leaves: the pool again, all else as it was -/
def Drawn (H : Hp) (p : Addr) (H' : Hp) : Prop := Pool H' p ∧ Off p H H'

local macro_rules | `(tactic| walk_at "r1") => `(tactic| (first
  | with_reducible refine q_seq ?_ | with_reducible refine q_asg ?_ | with_reducible refine q_name ?_ | with_reducible refine q_ret ?_ | with_reducible refine q_drop ?_ | with_reducible refine q_next ?_
  | with_reducible refine q_ifS ?_ | with_reducible refine q_ifE ?_ | with_reducible refine q_op ?_ | with_reducible refine q_un ?_ | with_reducible refine q_test ?_ | with_reducible refine q_tB ?_ | with_reducible refine q_bl ?_
  | with_reducible refine q_c ?_ | with_reducible refine q_cons ?_ | with_reducible refine q_nil ?_ | with_reducible refine q_call ?_ | with_reducible refine q_cb ?_ | with_reducible refine q_gsub ?_
  | with_reducible refine q_sl ?_ | with_reducible refine q_noPart ?_ | with_reducible refine q_part ?_ | with_reducible refine q_int ?_
  | with_reducible refine q_addI ?_ | with_reducible refine q_subI ?_ | with_reducible refine q_ltI ?_ | with_reducible refine q_leI ?_ | with_reducible refine q_gtI ?_ | with_reducible refine q_geI ?_ | with_reducible refine q_negI ?_
  | with_reducible refine q_cIntI ?_ | with_reducible refine q_cAbs ?_ | with_reducible refine q_isN ?_ | with_reducible refine q_notN ?_
  | with_reducible refine q_and ?_ | with_reducible refine q_or ?_ | with_reducible refine q_not ?_ | with_reducible refine q_andV ?_ | with_reducible refine q_orV ?_ | with_reducible refine q_notV ?_
  | ((with_reducible show tVar _ _ _ _); refine q_var rfl ?_)))
local macro_rules | `(tactic| walk_at "rd") => `(tactic| repeat walk_at "r1")
local macro_rules | `(tactic| walk_at "mod") => `(tactic| with_reducible refine q_modI (by first | omega | decide) ?_)

theorem mul_ok {i j : Int} (a : Nat) (ha : i.natAbs < 2 ^ a) (hb : j.natAbs < 2 ^ 64) (h0 : 0 < a) (h : a ≤ 9000) : CMulW i j := wide_mul ha hb h0 (by decide) (by omega)
theorem mul64 {i j : Int} (ha : i.natAbs < 18446744073709551616) (hb : j.natAbs < 18446744073709551616) : CMulW i j := wide_mul (a := 64) (b := 64) (by simpa using ha) (by simpa using hb) (by decide) (by decide) (by decide)

theorem at_of {α : Type} {xs : List α} {i : Int} {v : α} (h0 : 0 ≤ i) (h : xs[i.toNat]? = some v) : atI xs i = some v := by
  have hl := (List.getElem?_eq_some_iff.mp h).1
  unfold atI ixN
  rw [if_pos h0, if_pos (by omega)]
  exact h
/-! ### texts by their signs -/
/-- the text of these signs -/
abbrev St8 (l : List Nat) : Str := ⟨l.toArray⟩
theorem st8_app (a b : List Nat) : St8 a ++ St8 b = St8 (a ++ b) := by
  show (⟨a.toArray ++ b.toArray⟩ : Str) = ⟨(a ++ b).toArray⟩
  rw [List.append_toArray]
theorem st8_len (a : List Nat) : (St8 a).length = a.length := rfl
theorem st8_list (a : List Nat) : (St8 a).cps.toList = a := rfl
theorem st8_of (z : Str) : z = St8 z.cps.toList := rfl
theorem st8_inj {a b : List Nat} (h : St8 a = St8 b) : a = b := by
  have h1 : (St8 a).cps.toList = (St8 b).cps.toList := by rw [h]
  exact h1
def lets : List Nat := [97, 98, 99, 100, 101, 102, 103, 104, 105, 106, 107, 108, 109, 110, 111, 112, 113, 114, 115, 116, 117, 118, 119, 120, 121, 122]
def digs : List Nat := [48, 49, 50, 51, 52, 53, 54, 55, 56, 57]
theorem lets_is : ("abcdefghijklmnopqrstuvwxyz" : Str) = St8 lets := by decide +kernel
theorem digs_is : ("0123456789" : Str) = St8 digs := by decide +kernel
/-- the signs of a name -/
structure NameL (l : List Nat) : Prop where
  fst : ∃ c r, l = c :: r ∧ c ∈ lets
  all : ∀ c ∈ l, c ∈ lets ++ digs
  len : l.length ≤ 12
/-! ### data as a whole, tracked -/
mutual
inductive Rp (H : Hp) : V → PyData → Prop
  | non : Rp H .non .none
  | bl (b : Bool) : Rp H (.bl b) (.bool b)
  | int (i : Int) : Rp H (.int i) (.int i)
  | str (x : Str) : Rp H (.str x) (.str x)
  | lst {a : Addr} {xs : List V} {ds : List PyData} : H a = some (.lst xs) → xs.length ≤ 1000000 → RpA H xs ds → Rp H (.ref a) (.list ds)
  | tup {a : Addr} {xs : List V} {ds : List PyData} : H a = some (.tup xs) → xs.length ≤ 1000000 → RpA H xs ds → Rp H (.ref a) (.tuple ds)
inductive RpA (H : Hp) : List V → List PyData → Prop
  | nil : RpA H [] []
  | cons {x : V} {d : PyData} {xs : List V} {ds : List PyData} : Rp H x d → RpA H xs ds → RpA H (x :: xs) (d :: ds)
end
theorem RpA.len {H : Hp} : ∀ {xs : List V} {ds : List PyData}, RpA H xs ds → xs.length = ds.length
  | _, _, .nil => rfl
  | _, _, .cons _ t => by rw [List.length_cons, List.length_cons, RpA.len t]
theorem RpA.get {H : Hp} : ∀ {xs : List V} {ds : List PyData} {i : Nat} {x : V}, RpA H xs ds → xs[i]? = some x → ∃ d, ds[i]? = some d ∧ Rp H x d
  | _, _, _, _, .nil, e => by cases e
  | _, _, 0, _, .cons r _, e => by
    cases e
    exact ⟨_, rfl, r⟩
  | _, _, i + 1, _, .cons _ t, e => by
    obtain ⟨d, h1, h2⟩ := RpA.get (i := i) t e
    exact ⟨d, h1, h2⟩
theorem RpA.at {H : Hp} {xs ys : List V} {ds : List PyData} {i : Nat} (a : RpA H xs ds) (b : RpA H ys ds) (hi : i < ds.length) : ∃ x y d, xs[i]? = some x ∧ ys[i]? = some y ∧ d ∈ ds ∧ Rp H x d ∧ Rp H y d := by
  have h1 : i < xs.length := by rw [a.len]; exact hi
  have h2 : i < ys.length := by rw [b.len]; exact hi
  obtain ⟨d, e1, r1⟩ := a.get (List.getElem?_eq_getElem h1)
  obtain ⟨d', e2, r2⟩ := b.get (List.getElem?_eq_getElem h2)
  rw [e1] at e2
  cases e2
  exact ⟨_, _, d, List.getElem?_eq_getElem h1, List.getElem?_eq_getElem h2, List.mem_of_getElem? e1, r1, r2⟩
theorem dep_mem : ∀ {ds : List PyData} {d : PyData}, d ∈ ds → d.depth ≤ PyData.depthAll ds
  | [], _, h => by cases h
  | x :: r, d, h => by
    show d.depth ≤ max x.depth (PyData.depthAll r)
    rcases List.mem_cons.mp h with h | h
    · rw [h]
      exact Nat.le_max_left _ _
    · exact Nat.le_trans (dep_mem h) (Nat.le_max_right _ _)
def spLaw (K : PySem.W.Frag) : Sp := Sp1 fun x H Q _ => ∃ (a : Addr) (ns : List Int), x = .ref a ∧ SqL K H a (ns.map V.int) ∧ ns.length ≤ 63 ∧ ∀ H', Q (.bl true) H'
theorem law_start (K : PySem.W.Frag) (H : Hp) (a : Addr) (ns : List Int) (hl : ns.length ≤ 63) (_ : Only H) (hS : SqL K H a (ns.map V.int)) : spLaw K [.ref a] H (fun v _ => v = .bl true) fun _ _ _ => False := ⟨_, rfl, a, ns, rfl, hS, hl, fun _ => rfl⟩
abbrev sp_law (K : PySem.W.Frag) (_ : Ad) : Sp := spLaw K
theorem same_new {H : Hp} {p : Addr} {o : HO} (h : H p = none) : Same H (upd H p o) := fun b u e => by
  rw [upd_ne (ne_of_none e h)]
  exact e
def Tk (H H' : Hp) : Prop := ∀ q xs, H q = some (.tup xs) → H' q = some (.tup xs)
theorem Tk.refl {H : Hp} : Tk H H := fun _ _ h => h
theorem Tk.trans {H H1 H2 : Hp} (a : Tk H H1) (b : Tk H1 H2) : Tk H H2 := fun q xs h => b q xs (a q xs h)
theorem Tk.new {H : Hp} {q : Addr} {o : HO} (h : H q = none) : Tk H (upd H q o) := fun a xs e => by
  rw [upd_ne (ne_of_none e h)]
  exact e
theorem Tk.lst {H : Hp} {q : Addr} {o : HO} {xs : List V} (h : H q = some (.lst xs)) : Tk H (upd H q o) := fun a ys e => by
  rw [upd_ne (ne_of e h (by intro z; cases z))]
  exact e
theorem Tk.same {H H' : Hp} (s : Same H H') : Tk H H' := fun q xs h => s q _ h
theorem Tk.drawn {H H' : Hp} {p : Addr} (P : Pool H p) (D : Drawn H p H') : Tk H H' := fun q xs h => by
  obtain ⟨l, cs, a, b, c, d, hp, _⟩ := P
  exact D.2.to h (ne_of h hp (by intro z; cases z))
theorem tyL {K : PySem.W.Frag} {H : Hp} {p : Addr} {xs : List V} (h : H p = some (.lst xs)) : tyV K "list" (.ref p) H := Or.inl ⟨rfl, _, Or.inl (Or.inl h)⟩
theorem q_raise {C : Addr} {fn : Str} {W : WX} {ta : TA} {D : Ends} {σ : L2.St} {H : Hp} (h : ta σ H fun vs H1 => ∃ v, vs = [v] ∧ ∀ d, H1 d = none → W (.ref C) (some d) σ (upd H1 d (.xd [(fn, v)]))) : tRaiseE C fn W ta D σ H := h

/-- a number from a cell of the script, a turn and a limit -/
def sp__law_mixed (_ : PySem.W.Frag) (_ : Ad) : Sp := Sp3 fun x y z H Q _ => ∃ c t l : Int, x = .int c ∧ y = .int t ∧ z = .int l ∧ 0 ≤ c ∧ c < 10 ^ 18 ∧ t ≤ 7 ∧ -1 ≤ t ∧ 0 < l ∧ ∀ r, 0 ≤ r → r < l → Q (.int r) H
def t__law_mixed (K : PySem.W.Frag) (A : Ad) : TS :=
  (tSeq (tAsg (tOp oMod (tCB cInt (tCons (tOp (oAdd K) (tOp (oAdd K) (tOp oMul (tVar 0) (tC (.int 48271))) (tOp oMul (tVar 1) (tC (.int 69621)))) (tC (.int 11))) tNil)) (tC (.int 2147483647))) (gName 3))
  (tSeq (tAsg (tOp oMod (tCB cInt (tCons (tOp (oAdd K) (tOp (oAdd K) (tOp oMul (tVar 3) (tC (.int 40692))) (tOp oMul (tVar 0) (tC (.int 16807)))) (tOp oMul (tVar 1) (tC (.int 30269)))) tNil)) (tC (.int 2147483399))) (gName 4))
  (tSeq (tAsg (tOp oMod (tCB cInt (tCons (tOp (oAdd K) (tOp oMul (tVar 4) (tC (.int 39373))) (tOp oDiv (tVar 3) (tC (.int 7)))) tNil)) (tC (.int 1000000007))) (gName 5))
  (tRet (tOp oMod (tCB cInt (tCons (tVar 5) tNil)) (tVar 2))))))
theorem pure__law_mixed {K : PySem.W.Frag} {A : Ad} {vs : List V} {H : Hp} {Q : VK} {E : XK} (h : sp__law_mixed K A vs H Q E) : t__law_mixed K A { nx := fun _ H' => Q .non H', rt := Q } (start ["_law_cell", "_law_turn", "_law_limit", "_law_first", "_law_second", "_law_third"] vs) H := by
  obtain ⟨_, _, _, rfl, c, t, l, rfl, rfl, rfl, hc0, hc1, ht, ht0, hl, k⟩ := h
  unfold t__law_mixed
  walk_at "rd"
  refine q_mulI (mul64 (by omega) (by omega)) ?_
  walk_at "rd"
  refine q_mulI (mul64 (by omega) (by omega)) ?_
  walk_at "rd"
  refine q_modI (by decide) ?_
  walk_at "rd"
  have h1 := Int.emod_nonneg (c * 48271 + t * 69621 + 11) (show (2147483647 : Int) ≠ 0 by decide)
  have h2 := Int.emod_lt_of_pos (c * 48271 + t * 69621 + 11) (show (0 : Int) < 2147483647 by decide)
  generalize (c * 48271 + t * 69621 + 11) % 2147483647 = r1 at h1 h2 ⊢
  refine q_mulI (mul64 (by omega) (by omega)) ?_
  walk_at "rd"
  refine q_mulI (mul64 (by omega) (by omega)) ?_
  walk_at "rd"
  refine q_mulI (mul64 (by omega) (by omega)) ?_
  walk_at "rd"
  refine q_modI (by decide) ?_
  walk_at "rd"
  have h3 := Int.emod_nonneg (r1 * 40692 + c * 16807 + t * 30269) (show (2147483399 : Int) ≠ 0 by decide)
  have h4 := Int.emod_lt_of_pos (r1 * 40692 + c * 16807 + t * 30269) (show (0 : Int) < 2147483399 by decide)
  generalize (r1 * 40692 + c * 16807 + t * 30269) % 2147483399 = r2 at h3 h4 ⊢
  refine q_mulI (mul64 (by omega) (by omega)) ?_
  walk_at "rd"
  refine q_divI (wide_div (b := 3) (by decide) (by decide) (by decide) (by decide)) ?_
  walk_at "rd"
  refine q_modI (by decide) ?_
  walk_at "rd"
  refine q_modI hl ?_
  exact k _ (Int.emod_nonneg _ (by omega)) (Int.emod_lt_of_pos _ hl)


/-! ### a draw -/
def sp__law_draw (_ : PySem.W.Frag) (_ : Ad) : Sp := Sp2 fun x y H Q _ => ∃ (p : Addr) (l : Int), x = .ref p ∧ y = .int l ∧ 0 < l ∧ l < 2 ^ 60 ∧ Pool H p ∧ ∀ r H', 0 ≤ r → r < l → Drawn H p H' → Q (.int r) H'
def t__law_draw (K : PySem.W.Frag) (A : Ad) : TS :=
  (tSeq (tIfS (tTest (tOp oGt (tOp (oIx K) (tVar 0) (tC (.int 2))) (tC (.int 0))))
  (tSeq (tAsg (tOp oMod (tCB cInt (tCons (tOp (oIx K) (tVar 0) (tC (.int 2))) tNil)) (tVar 1)) (gName 3))
  (tSeq (tAsg (tOp oDiv (tOp (oIx K) (tVar 0) (tC (.int 2))) (tVar 1)) (gSub (tVar 0) (tC (.int 2)) rSetL))
  (tRet (tVar 3))))
  tNext)
  (tSeq (tIfS (tTest (tOp oGt (tOp (oIx K) (tVar 0) (tC (.int 4))) (tC (.int 0))))
  (tSeq (tAsg (tOp oSub (tOp (oIx K) (tVar 0) (tC (.int 4))) (tC (.int 1))) (gSub (tVar 0) (tC (.int 4)) rSetL))
  (tRet (tCall (sp__law_mixed K A) [] E0 (tCons (tOp (oIx K) (tVar 0) (tC (.int 3))) (tCons (tOp (oIx K) (tVar 0) (tC (.int 4))) (tCons (tVar 1) tNil))))))
  tNext)
  (tSeq (tIfS (tTest (tOp oGe (tOp (oIx K) (tVar 0) (tC (.int 1))) (tCB (cLen K) (tCons (tOp (oIx K) (tVar 0) (tC (.int 0))) tNil))))
  (tRet (tC (.int 0)))
  tNext)
  (tSeq (tAsg (tOp (oIx K) (tOp (oIx K) (tVar 0) (tC (.int 0))) (tOp (oIx K) (tVar 0) (tC (.int 1)))) (gName 2))
  (tSeq (tAsg (tOp (oAdd K) (tOp (oIx K) (tVar 0) (tC (.int 1))) (tC (.int 1))) (gSub (tVar 0) (tC (.int 1)) rSetL))
  (tSeq (tIfS (tTest (tOp oLt (tVar 2) (tC (.int 0))))
  (tAsg (tOp oSub (tUn oNeg (tC (.int 1))) (tVar 2)) (gName 2))
  tNext)
  (tSeq (tIfS (tTest (tOp oGe (tVar 2) (tOp oPow (tC (.int 10)) (tC (.int 18)))))
  (tSeq (tAsg (tOp oDiv (tVar 2) (tVar 1)) (gSub (tVar 0) (tC (.int 2)) rSetL))
  (tRet (tOp oMod (tCB cInt (tCons (tVar 2) tNil)) (tVar 1))))
  tNext)
  (tSeq (tAsg (tVar 2) (gSub (tVar 0) (tC (.int 3)) rSetL))
  (tSeq (tAsg (tC (.int 7)) (gSub (tVar 0) (tC (.int 4)) rSetL))
  (tRet (tCall (sp__law_mixed K A) [] E0 (tCons (tVar 2) (tCons (tC (.int 7)) (tCons (tVar 1) tNil))))))))))))))
theorem pure__law_draw {K : PySem.W.Frag} {A : Ad} {vs : List V} {H : Hp} {Q : VK} {E : XK} (h : sp__law_draw K A vs H Q E) : t__law_draw K A { nx := fun _ H' => Q .non H', rt := Q } (start ["_law_pool_here", "_law_limit", "_law_cell", "_law_digit"] vs) H := by
  obtain ⟨_, _, rfl, p, lim, rfl, rfl, hl0, hl1, ⟨l, cs, a, b, c, d, hp, hl, ne, ha, hc0, hc1, hd⟩, k⟩ := h
  have hdiv : ∀ i : Int, CDivW i lim := fun i => wide_div (b := 60) hl0 (by omega) (by decide) (by decide)
  have pool : ∀ (a' b' c' d' : Int), 0 ≤ a' → 0 ≤ c' → c' < 10 ^ 18 → d' ≤ 7 → Drawn H p (upd H p (.lst [.ref l, .int a', .int b', .int c', .int d'])) := fun a' b' c' d' h1 h2 h3 h4 =>
    ⟨⟨l, cs, a', b', c', d', upd_same, by rw [upd_ne ne]; exact hl, ne, h1, h2, h3, h4⟩, ⟨fun _ h => upd_ne h, fun l' r e => by rw [hp] at e; cases e; exact ⟨_, upd_same⟩⟩⟩
  unfold t__law_draw
  walk_at "rd"
  refine q_ixL hp rfl ?_
  walk_at "rd"
  refine q_dec (fun hb => ?_) (fun _ => ?_)
  · walk_at "rd"
    refine q_ixL hp rfl ?_
    walk_at "rd"
    refine q_modI hl0 ?_
    walk_at "rd"
    refine q_ixL hp rfl ?_
    walk_at "rd"
    refine q_divI (hdiv _) ?_
    walk_at "rd"
    refine q_setL hp rfl ?_
    walk_at "rd"
    exact k _ _ (Int.emod_nonneg _ (by omega)) (Int.emod_lt_of_pos _ hl0) (pool a _ c d ha hc0 hc1 hd)
  walk_at "rd"
  refine q_ixL hp rfl ?_
  walk_at "rd"
  refine q_dec (fun hd0 => ?_) (fun _ => ?_)
  · walk_at "rd"
    refine q_ixL hp rfl ?_
    walk_at "rd"
    refine q_setL hp rfl ?_
    walk_at "rd"
    refine q_ixL upd_same rfl ?_
    walk_at "rd"
    refine q_ixL upd_same rfl ?_
    walk_at "rd"
    refine s3 ⟨c, d - 1, lim, rfl, rfl, rfl, hc0, hc1, by omega, by omega, hl0, fun r h0 h1 => ?_⟩
    exact k r _ h0 h1 (pool a b c (d - 1) ha hc0 hc1 (by omega))
  walk_at "rd"
  refine q_ixL hp rfl ?_
  walk_at "rd"
  refine q_ixL hp rfl ?_
  walk_at "rd"
  refine q_lenL hl ?_
  walk_at "rd"
  refine q_dec (fun _ => ?_) (fun hlt => ?_)
  · walk_at "rd"
    exact k 0 H (by omega) hl0 ⟨⟨l, cs, a, b, c, d, hp, hl, ne, ha, hc0, hc1, hd⟩, Off.refl⟩
  rw [List.length_map] at hlt
  have hlt' : a.toNat < cs.length := by omega
  walk_at "rd"
  refine q_ixL hp rfl ?_
  walk_at "rd"
  refine q_ixL hp rfl ?_
  walk_at "rd"
  refine q_ixL (v := .int cs[a.toNat]) hl (at_of ha (by rw [List.getElem?_map, List.getElem?_eq_getElem hlt']; rfl)) ?_
  walk_at "rd"
  generalize cs[a.toNat] = z
  refine q_ixL hp rfl ?_
  walk_at "rd"
  refine q_setL hp rfl ?_
  walk_at "rd"
  -- the cell as it is drawn from
  have tail : ∀ z : Int, 0 ≤ z → (tSeq (tIfS (tTest (tOp oGe (tVar 2) (tOp oPow (tC (.int 10)) (tC (.int 18)))))
  (tSeq (tAsg (tOp oDiv (tVar 2) (tVar 1)) (gSub (tVar 0) (tC (.int 2)) rSetL))
  (tRet (tOp oMod (tCB cInt (tCons (tVar 2) tNil)) (tVar 1))))
  tNext)
  (tSeq (tAsg (tVar 2) (gSub (tVar 0) (tC (.int 3)) rSetL))
  (tSeq (tAsg (tC (.int 7)) (gSub (tVar 0) (tC (.int 4)) rSetL))
  (tRet (tCall (sp__law_mixed K A) [] E0 (tCons (tVar 2) (tCons (tC (.int 7)) (tCons (tVar 1) tNil)))))))) { nx := fun _ H' => Q .non H', rt := Q }
      [some (.ref p), some (.int lim), some (.int z), none] (upd H p (.lst [.ref l, .int (a + 1), .int b, .int c, .int d])) := by
    intro z hz
    walk_at "rd"
    refine q_powI ⟨by decide, by decide, by decide⟩ ?_
    walk_at "rd"
    refine q_dec (fun _ => ?_) (fun hz1 => ?_)
    · walk_at "rd"
      refine q_divI (hdiv _) ?_
      walk_at "rd"
      refine q_setL upd_same rfl ?_
      walk_at "rd"
      refine q_modI hl0 ?_
      rw [upd_upd]
      exact k _ _ (Int.emod_nonneg _ (by omega)) (Int.emod_lt_of_pos _ hl0) (pool (a + 1) _ c d (by omega) hc0 hc1 hd)
    have hz2 : z < 10 ^ 18 := by
      have e : (10 : Int) ^ (18 : Int).toNat = 10 ^ 18 := rfl
      omega
    walk_at "rd"
    refine q_setL upd_same rfl ?_
    walk_at "rd"
    refine q_setL upd_same rfl ?_
    walk_at "rd"
    rw [upd_upd, upd_upd]
    refine s3 ⟨z, 7, lim, rfl, rfl, rfl, hz, hz2, by decide, by decide, hl0, fun r h0 h1 => ?_⟩
    exact k r _ h0 h1 (pool (a + 1) b z 7 (by omega) hz hz2 (by decide))
  refine q_dec (fun hz => ?_) (fun hz => ?_)
  · refine q_asg (q_op (q_un (q_c (q_negI (q_var rfl (q_subI ?_))))))
    exact tail _ (by omega)
  · exact tail _ (by omega)

def sp__law_letters (_ : PySem.W.Frag) (_ : Ad) : Sp := Sp0 fun H Q _ => Q (.str (St8 lets)) H
def t__law_letters (K : PySem.W.Frag) (A : Ad) : TS :=
  (tRet (tC (.str "abcdefghijklmnopqrstuvwxyz")))
theorem pure__law_letters {K : PySem.W.Frag} {A : Ad} {vs : List V} {H : Hp} {Q : VK} {E : XK} (h : sp__law_letters K A vs H Q E) : t__law_letters K A { nx := fun _ H' => Q .non H', rt := Q } (start [] vs) H := by
  obtain ⟨rfl, k⟩ := h
  unfold t__law_letters
  walk_at "rd"
  show Q (.str ("abcdefghijklmnopqrstuvwxyz" : Str)) H
  rw [lets_is]
  exact k

def sp__law_pool (K : PySem.W.Frag) (_ : Ad) : Sp := Sp1 fun x H Q _ => ∃ (a : Addr) (cs : List Int), x = .ref a ∧ SqL K H a (cs.map V.int) ∧ ∀ p H', Same H H' → Pool H' p → H p = none → Q (.ref p) H'
def t__law_pool (K : PySem.W.Frag) (A : Ad) : TS :=
  (tRet (tLst (tCons (tCB (cList K) (tCons (tVar 0) tNil)) (tCons (tC (.int 0)) (tCons (tC (.int 0)) (tCons (tC (.int 0)) (tCons (tC (.int 0)) tNil)))))))
theorem pure__law_pool {K : PySem.W.Frag} {A : Ad} {vs : List V} {H : Hp} {Q : VK} {E : XK} (h : sp__law_pool K A vs H Q E) : t__law_pool K A { nx := fun _ H' => Q .non H', rt := Q } (start ["_law_script"] vs) H := by
  obtain ⟨_, rfl, a, cs, rfl, hS, k⟩ := h
  unfold t__law_pool
  walk_at "rd"
  refine q_lst ?_
  walk_at "rd"
  refine ⟨_, _, rfl, .inl hS, fun l hl => ?_⟩
  walk_at "rd"
  refine ⟨by show 5 ≤ sizeLine; decide, fun p hp => ?_⟩
  have ne : l ≠ p := ne_of_none upd_same hp
  have hpH : H p = none := by
    rw [upd_ne (Ne.symm ne)] at hp
    exact hp
  refine k p _ (fun b o e => ?_) ⟨l, cs, 0, 0, 0, 0, upd_same, by rw [upd_ne ne, upd_same], ne, by decide, by decide, by decide, by decide⟩ hpH
  rw [upd_ne (ne_of_none e hpH), upd_ne (ne_of_none e hl)]
  exact e

def sp__law_name (_ : PySem.W.Frag) (_ : Ad) : Sp := Sp1 fun x H Q _ => ∃ (p : Addr), x = .ref p ∧ Pool H p ∧ ∀ l H', NameL l → Drawn H p H' → Q (.str (St8 l)) H'
def t__law_name (K : PySem.W.Frag) (A : Ad) : TS :=
  (tSeq (tAsg (tOp (oAdd K) (tCall (sp__law_letters K A) [] E0 tNil) (tC (.str "0123456789"))) (gName 1))
  (tSeq (tAsg (tOp (oIx K) (tVar 1) (tCall (sp__law_draw K A) [] E0 (tCons (tVar 0) (tCons (tC (.int 26)) tNil)))) (gName 2))
  (tSeq (tAsg (tCall (sp__law_draw K A) [] E0 (tCons (tVar 0) (tCons (tC (.int 3)) tNil))) (gName 3))
  (tSeq (tIfS (tTest (tOp (oEq K) (tCall (sp__law_draw K A) [] E0 (tCons (tVar 0) (tCons (tC (.int 4)) tNil))) (tC (.int 1))))
  (tAsg (tCall (sp__law_draw K A) [] E0 (tCons (tVar 0) (tCons (tC (.int 12)) tNil))) (gName 3))
  tNext)
  (tSeq (tFor (iRng1 (tCons (tVar 3) tNil)) (gName 4)
  (tAsg (tOp (oAdd K) (tVar 2) (tOp (oIx K) (tVar 1) (tCall (sp__law_draw K A) [] E0 (tCons (tVar 0) (tCons (tC (.int 36)) tNil))))) (gName 2)))
  (tRet (tVar 2)))))))
theorem pure__law_name {K : PySem.W.Frag} {A : Ad} {vs : List V} {H : Hp} {Q : VK} {E : XK} (h : sp__law_name K A vs H Q E) : t__law_name K A { nx := fun _ H' => Q .non H', rt := Q } (start ["_law_pool_here", "_law_signs", "_law_name_here", "_law_more", "_law_k"] vs) H := by
  obtain ⟨_, rfl, p, rfl, P, k⟩ := h
  unfold t__law_name
  walk_at "rd"
  refine s0 ?_
  walk_at "rd"
  refine q_addS (by decide) ?_
  walk_at "rd"
  have e36 : St8 lets ++ ("0123456789" : Str) = St8 (lets ++ digs) := by rw [digs_is, st8_app]
  rw [e36]
  refine s2 ⟨p, 26, rfl, rfl, by decide, by decide, P, fun r0 H0 h0 h1 D0 => ?_⟩
  have hr0 : r0.toNat < lets.length := by show r0.toNat < 26; omega
  obtain ⟨c0, hc0⟩ : ∃ c, lets[r0.toNat]? = some c := ⟨_, List.getElem?_eq_getElem hr0⟩
  refine q_ixS (c := c0) (by decide) (at_of h0 (by rw [st8_list, List.getElem?_append_left hr0]; exact hc0)) ?_
  walk_at "rd"
  refine s2 ⟨p, 3, rfl, rfl, by decide, by decide, D0.1, fun r1 H1 h2 h3 D1 => ?_⟩
  walk_at "rd"
  refine s2 ⟨p, 4, rfl, rfl, by decide, by decide, D1.1, fun r2 H2 _ _ D2 => ?_⟩
  walk_at "rd"
  have D02 : Off p H H2 := (D0.2.trans D1.2).trans D2.2
  -- from here: the sign so far, how many more
  have tail : ∀ (m : Int) (H3 : Hp), 0 ≤ m → m < 12 → Drawn H p H3 →
      (tSeq (tFor (iRng1 (tCons (tVar 3) tNil)) (gName 4)
  (tAsg (tOp (oAdd K) (tVar 2) (tOp (oIx K) (tVar 1) (tCall (sp__law_draw K A) [] E0 (tCons (tVar 0) (tCons (tC (.int 36)) tNil))))) (gName 2)))
  (tRet (tVar 2))) { nx := fun _ H' => Q .non H', rt := Q } [some (.ref p), some (.str (St8 (lets ++ digs))), some (.str (St8 [c0])), some (.int m), none] H3 := by
    intro m H3 hm0 hm1 D3
    walk_at "rd"
    refine q_for ?_
    walk_at "rd"
    refine q_cons (q_var rfl (q_nil ⟨m, rfl, by omega, by omega, ?_⟩))
    refine for_range (fun i σ H4 => ∃ (l : List Nat) (v : Option V), σ = [some (.ref p), some (.str (St8 (lets ++ digs))), some (.str (St8 l)), some (.int m), v] ∧ l.length = i + 1 ∧ (∃ r, l = c0 :: r) ∧ (∀ c ∈ l, c ∈ lets ++ digs) ∧ Drawn H p H4)
      ⟨[c0], _, rfl, rfl, ⟨[], rfl⟩, ?_, D3⟩ ?_ ?_
    · intro c hc
      rw [List.mem_singleton] at hc
      subst hc
      exact List.mem_append_left _ (List.mem_of_getElem? hc0)
    · rintro i σ H4 hi ⟨l, v, rfl, hl, ⟨r, hr⟩, ha, D4⟩
      walk_at "rd"
      refine s2 ⟨p, 36, rfl, rfl, by decide, by decide, D4.1, fun r3 H5 h4 h5 D5 => ?_⟩
      have hr3 : r3.toNat < (lets ++ digs).length := by show r3.toNat < 36; omega
      obtain ⟨c1, hc1⟩ : ∃ c, (lets ++ digs)[r3.toNat]? = some c := ⟨_, List.getElem?_eq_getElem hr3⟩
      refine q_ixS (c := c1) (by decide) (at_of h4 hc1) ?_
      refine q_addS (by rw [st8_len, hl]; show _ + 1 ≤ sizeLine; exact Nat.le_trans (show _ ≤ 100 by omega) (by decide)) ?_
      walk_at "rd"
      rw [st8_app l [c1]]
      refine ⟨l ++ [c1], _, rfl, by rw [List.length_append, hl]; rfl, ⟨r ++ [c1], by rw [hr]; rfl⟩, fun c hc => ?_, ⟨D5.1, D4.2.trans D5.2⟩⟩
      rcases List.mem_append.mp hc with hc | hc
      · exact ha c hc
      · rw [List.mem_singleton] at hc
        subst hc
        exact List.mem_of_getElem? hc1
    · rintro σ H4 ⟨l, v, rfl, hl, ⟨r, hr⟩, ha, D4⟩
      walk_at "rd"
      exact k l H4 ⟨⟨c0, r, hr, List.mem_of_getElem? hc0⟩, ha, by omega⟩ D4
  refine q_eqS rfl ?_
  walk_at "rd"
  refine q_dec (fun _ => ?_) (fun _ => ?_)
  · walk_at "rd"
    refine s2 ⟨p, 12, rfl, rfl, by decide, by decide, D2.1, fun r4 H4 h4 h5 D4 => ?_⟩
    exact tail r4 H4 h4 h5 ⟨D4.1, D02.trans D4.2⟩
  · exact tail r1 H2 h2 (by omega) ⟨D2.1, D02⟩

def sp__law_number (_ : PySem.W.Frag) (_ : Ad) : Sp := Sp1 fun x H Q _ => ∃ (p : Addr), x = .ref p ∧ Pool H p ∧ ∀ n H', 0 ≤ n → n < 1000 → Drawn H p H' → Q (.int n) H'
def t__law_number (K : PySem.W.Frag) (A : Ad) : TS :=
  (tSeq (tIfS (tTest (tOp (oEq K) (tCall (sp__law_draw K A) [] E0 (tCons (tVar 0) (tCons (tC (.int 3)) tNil))) (tC (.int 2))))
  (tRet (tCall (sp__law_draw K A) [] E0 (tCons (tVar 0) (tCons (tC (.int 1000)) tNil))))
  tNext)
  (tRet (tCall (sp__law_draw K A) [] E0 (tCons (tVar 0) (tCons (tC (.int 4)) tNil)))))
theorem pure__law_number {K : PySem.W.Frag} {A : Ad} {vs : List V} {H : Hp} {Q : VK} {E : XK} (h : sp__law_number K A vs H Q E) : t__law_number K A { nx := fun _ H' => Q .non H', rt := Q } (start ["_law_pool_here"] vs) H := by
  obtain ⟨_, rfl, p, rfl, P, k⟩ := h
  unfold t__law_number
  walk_at "rd"
  refine s2 ⟨p, 3, rfl, rfl, by decide, by decide, P, fun r0 H0 h0 h1 D0 => ?_⟩
  walk_at "rd"
  refine q_eqS rfl ?_
  walk_at "rd"
  refine q_dec (fun _ => ?_) (fun _ => ?_)
  · walk_at "rd"
    refine s2 ⟨p, 1000, rfl, rfl, by decide, by decide, D0.1, fun r1 H1 h2 h3 D1 => ?_⟩
    exact k r1 H1 h2 h3 ⟨D1.1, D0.2.trans D1.2⟩
  · walk_at "rd"
    refine s2 ⟨p, 4, rfl, rfl, by decide, by decide, D0.1, fun r1 H1 h2 h3 D1 => ?_⟩
    exact k r1 H1 h2 (by omega) ⟨D1.1, D0.2.trans D1.2⟩

/-- the same data: True -/
def same_at (n : Nat) : Sp := Sp2 fun x y H Q _ => ∃ d, Rp H x d ∧ Rp H y d ∧ d.depth < n ∧ Q (.bl true) H
def t__law_same (K : PySem.W.Frag) (A : Ad) (rec : Sp) : TS :=
  (tSeq (tIfS (tTest (tOp oIsN (tVar 1) (tC .non)))
  (tRet (tOp oIsN (tVar 0) (tC .non)))
  tNext)
  (tSeq (tIfS (tB (tCB (cIsi K) (tCons (tVar 1) (tCons (tC (.ty "bool")) tNil))))
  (tRet (tAndV (tCB (cIsi K) (tCons (tVar 0) (tCons (tC (.ty "bool")) tNil))) (tOp (oEq K) (tVar 0) (tVar 1))))
  tNext)
  (tSeq (tIfS (tB (tCB (cIsi K) (tCons (tVar 1) (tCons (tC (.ty "int")) tNil))))
  (tRet (tAndV (tCB (cIsi K) (tCons (tVar 0) (tCons (tC (.ty "int")) tNil))) (tAndV (tNotV (tCB (cIsi K) (tCons (tVar 0) (tCons (tC (.ty "bool")) tNil)))) (tOp (oEq K) (tVar 0) (tVar 1)))))
  tNext)
  (tSeq (tIfS (tB (tCB (cIsi K) (tCons (tVar 1) (tCons (tC (.ty "str")) tNil))))
  (tRet (tAndV (tCB (cIsi K) (tCons (tVar 0) (tCons (tC (.ty "str")) tNil))) (tOp (oEq K) (tVar 0) (tVar 1))))
  tNext)
  (tSeq (tIfS (tAnd (tB (tCB (cIsi K) (tCons (tVar 1) (tCons (tC (.ty "tuple")) tNil)))) (tNot (tB (tCB (cIsi K) (tCons (tVar 0) (tCons (tC (.ty "tuple")) tNil))))))
  (tRet (tC (.bl false)))
  tNext)
  (tSeq (tIfS (tAnd (tB (tCB (cIsi K) (tCons (tVar 1) (tCons (tC (.ty "list")) tNil)))) (tNot (tB (tCB (cIsi K) (tCons (tVar 0) (tCons (tC (.ty "list")) tNil))))))
  (tRet (tC (.bl false)))
  tNext)
  (tSeq (tIfS (tTest (tOp (oNe K) (tCB (cLen K) (tCons (tVar 0) tNil)) (tCB (cLen K) (tCons (tVar 1) tNil))))
  (tRet (tC (.bl false)))
  tNext)
  (tSeq (tFor (iRng1 (tCons (tCB (cLen K) (tCons (tVar 1) tNil)) tNil)) (gName 2)
  (tIfS (tNot (tB (tCall rec [] E0 (tCons (tOp (oIx K) (tVar 0) (tVar 2)) (tCons (tOp (oIx K) (tVar 1) (tVar 2)) tNil)))))
  (tRet (tC (.bl false)))
  tNext))
  (tRet (tC (.bl true)))))))))))
theorem loop_same {K : PySem.W.Frag} {A : Ad} {n : Nat} {a b : Addr} {xs ys : List V} {ds : List PyData} {H : Hp} {Q : VK} {D : Ends} (hD : D.rt = Q) (ra : RpA H xs ds) (rb : RpA H ys ds) (hl : ys.length ≤ 1000000)
    (ha : SqL K H a xs ∨ SqT K H a xs) (hb : SqL K H b ys ∨ SqT K H b ys) (hd : PyData.depthAll ds < n) (k : Q (.bl true) H) {v : Option V}
    (hlen : ∀ Q' : VK, Q' (.int ys.length) H → cLen K [.ref b] H Q') :
    (tSeq (tFor (iRng1 (tCons (tCB (cLen K) (tCons (tVar 1) tNil)) tNil)) (gName 2)
  (tIfS (tNot (tB (tCall (same_at n) [] E0 (tCons (tOp (oIx K) (tVar 0) (tVar 2)) (tCons (tOp (oIx K) (tVar 1) (tVar 2)) tNil)))))
  (tRet (tC (.bl false)))
  tNext))
  (tRet (tC (.bl true)))) D [some (.ref a), some (.ref b), v] H := by
  subst hD
  walk_at "rd"
  refine q_for ?_
  refine q_cons (q_cb (q_cons (q_var rfl (q_nil (hlen _ ?_)))))
  refine q_nil ⟨_, rfl, by omega, by omega, ?_⟩
  refine for_range (fun i σ H4 => H4 = H ∧ ∃ v : Option V, σ = [some (.ref a), some (.ref b), v]) ⟨rfl, v, rfl⟩ ?_ ?_
  · rintro i σ H4 hi ⟨rfl, v, rfl⟩
    have hi' : i < ds.length := by rw [← rb.len]; omega
    obtain ⟨x, y, d, ex, ey, hm, rx, ry⟩ := ra.at rb hi'
    walk_at "rd"
    refine ⟨xs, x, ha, at_of (by omega) (by rw [show (0 + (i : Int)).toNat = i by omega]; exact ex), ?_⟩
    walk_at "rd"
    refine ⟨ys, y, hb, at_of (by omega) (by rw [show (0 + (i : Int)).toNat = i by omega]; exact ey), ?_⟩
    walk_at "rd"
    refine s2 ⟨d, rx, ry, Nat.lt_of_le_of_lt (dep_mem hm) hd, ?_⟩
    refine ⟨true, rfl, ?_⟩
    refine q_F ?_
    walk_at "rd"
    exact ⟨rfl, _, rfl⟩
  · rintro σ H4 ⟨rfl, v, rfl⟩
    walk_at "rd"
    exact k
theorem pure__law_same {K : PySem.W.Frag} {A : Ad} {n : Nat} {vs : List V} {H : Hp} {Q : VK} {E : XK} (h : same_at (n + 1) vs H Q E) : t__law_same K A (same_at n) { nx := fun _ H' => Q .non H', rt := Q } (start ["_law_actual", "_law_expected", "_law_k"] vs) H := by
  obtain ⟨x, y, rfl, d, rx, ry, hd, k⟩ := h
  have hT : ∀ n : String, n ∈ tyNames ↔ n = "bool" ∨ n = "int" ∨ n = "str" ∨ n = "tuple" ∨ n = "list" := fun n => by simp [tyNames]
  have t1 : "bool" ∈ tyNames := by simp [tyNames]
  have t2 : "int" ∈ tyNames := by simp [tyNames]
  have t3 : "str" ∈ tyNames := by simp [tyNames]
  have t4 : "tuple" ∈ tyNames := by simp [tyNames]
  have t5 : "list" ∈ tyNames := by simp [tyNames]
  unfold t__law_same
  walk_at "rd"
  cases ry with
  | non =>
    cases rx
    refine q_decT rfl ?_
    walk_at "rd"
    exact k
  | bl b =>
    cases rx
    refine q_decF (fun h => nomatch h) ?_
    walk_at "rd"
    refine q_isi true t1 rfl ?_
    walk_at "rd"
    refine q_T ?_
    walk_at "rd"
    refine q_isi true t1 rfl ?_
    refine ⟨true, rfl, q_T ?_⟩
    walk_at "rd"
    refine q_eqS rfl ?_
    rw [decide_eq_true rfl]
    exact k
  | int i =>
    cases rx
    refine q_decF (fun h => nomatch h) ?_
    walk_at "rd"
    refine q_isi false t1 rfl ?_
    walk_at "rd"
    refine q_F ?_
    walk_at "rd"
    refine q_isi true t2 rfl ?_
    walk_at "rd"
    refine q_T ?_
    walk_at "rd"
    refine q_isi true t2 rfl ?_
    refine ⟨true, rfl, q_T ?_⟩
    walk_at "rd"
    refine q_isi false t1 rfl ?_
    refine ⟨false, rfl, ?_⟩
    refine ⟨true, rfl, q_T ?_⟩
    walk_at "rd"
    refine q_eqS rfl ?_
    rw [decide_eq_true rfl]
    exact k
  | str z =>
    cases rx
    refine q_decF (fun h => nomatch h) ?_
    walk_at "rd"
    refine q_isi false t1 rfl ?_
    walk_at "rd"
    refine q_F ?_
    walk_at "rd"
    refine q_isi false t2 rfl ?_
    walk_at "rd"
    refine q_F ?_
    walk_at "rd"
    refine q_isi true t3 rfl ?_
    walk_at "rd"
    refine q_T ?_
    walk_at "rd"
    refine q_isi true t3 rfl ?_
    refine ⟨true, rfl, q_T ?_⟩
    walk_at "rd"
    refine q_eqS rfl ?_
    rw [decide_eq_true rfl]
    exact k
  | @lst b ys ds eb lb rb =>
    cases rx with
    | @lst a xs _ ea la ra =>
    refine q_decF (fun h => nomatch h) ?_
    walk_at "rd"
    refine q_isi false t1 (.inr ⟨⟨_, eb⟩, rfl⟩) ?_
    walk_at "rd"
    refine q_F ?_
    walk_at "rd"
    refine q_isi false t2 (.inr ⟨⟨_, eb⟩, rfl⟩) ?_
    walk_at "rd"
    refine q_F ?_
    walk_at "rd"
    refine q_isi false t3 (.inr ⟨⟨_, eb⟩, rfl⟩) ?_
    walk_at "rd"
    refine q_F ?_
    walk_at "rd"
    refine q_isi false t4 (.inr ⟨⟨_, eb⟩, rfl⟩) ?_
    walk_at "rd"
    refine q_F ?_
    refine q_F ?_
    walk_at "rd"
    refine q_isi true t5 (.inr ⟨⟨_, eb⟩, rfl⟩) ?_
    walk_at "rd"
    refine q_T ?_
    walk_at "rd"
    refine q_isi true t5 (.inr ⟨⟨_, ea⟩, rfl⟩) ?_
    refine ⟨true, rfl, ?_⟩
    refine q_F ?_
    walk_at "rd"
    refine q_lenL ea ?_
    walk_at "rd"
    refine q_lenL eb ?_
    refine q_neS rfl ?_
    refine ⟨_, rfl, ?_⟩
    rw [ra.len, rb.len, decide_eq_true rfl]
    refine q_F ?_
    refine q_next ?_
    exact loop_same (A := A) rfl ra rb lb (.inl (SqL.of ea)) (.inl (SqL.of eb)) (by have : PyData.depthAll ds + 1 < n + 1 := by { have e : (PyData.list ds).depth = PyData.depthAll ds + 1 := by { first | rfl | (simp [PyData.depth]) | (simp [PyData.depth]; omega) }; omega }; omega) k (fun Q' q => q_lenL eb q)
  | @tup b ys ds eb lb rb =>
    cases rx with
    | @tup a xs _ ea la ra =>
    refine q_decF (fun h => nomatch h) ?_
    walk_at "rd"
    refine q_isi false t1 (.inl ⟨⟨_, eb⟩, rfl⟩) ?_
    walk_at "rd"
    refine q_F ?_
    walk_at "rd"
    refine q_isi false t2 (.inl ⟨⟨_, eb⟩, rfl⟩) ?_
    walk_at "rd"
    refine q_F ?_
    walk_at "rd"
    refine q_isi false t3 (.inl ⟨⟨_, eb⟩, rfl⟩) ?_
    walk_at "rd"
    refine q_F ?_
    walk_at "rd"
    refine q_isi true t4 (.inl ⟨⟨_, eb⟩, rfl⟩) ?_
    walk_at "rd"
    refine q_T ?_
    walk_at "rd"
    refine q_isi true t4 (.inl ⟨⟨_, ea⟩, rfl⟩) ?_
    refine ⟨true, rfl, ?_⟩
    refine q_F ?_
    walk_at "rd"
    refine q_isi false t5 (.inl ⟨⟨_, eb⟩, rfl⟩) ?_
    walk_at "rd"
    refine q_F ?_
    refine q_F ?_
    walk_at "rd"
    refine q_lenT ea ?_
    walk_at "rd"
    refine q_lenT eb ?_
    refine q_neS rfl ?_
    refine ⟨_, rfl, ?_⟩
    rw [ra.len, rb.len, decide_eq_true rfl]
    refine q_F ?_
    refine q_next ?_
    exact loop_same (A := A) rfl ra rb lb (.inr (SqT.of ea)) (.inr (SqT.of eb)) (by have : PyData.depthAll ds + 1 < n + 1 := by { have e : (PyData.tuple ds).depth = PyData.depthAll ds + 1 := by { first | rfl | (simp [PyData.depth]) | (simp [PyData.depth]; omega) }; omega }; omega) k (fun Q' q => q_lenT eb q)
abbrev rec_law_same (_ : PySem.W.Frag) (_ : Ad) (n : Nat) : Sp := same_at n
theorem no_law_same {vs : List V} {H : Hp} {Q : VK} {E : XK} (h : same_at 0 vs H Q E) : False := by
  obtain ⟨_, _, _, d, _, _, hd, _⟩ := h
  exact Nat.not_lt_zero _ hd
abbrev sp__law_same (_ : PySem.W.Frag) (_ : Ad) : Sp := same_at 24

def rUpper : V → List V → Hp → VK → Prop := fun x xs H Q => ∃ a, x = .str a ∧ xs = [] ∧ a.length ≤ 5592405 ∧ Q (.str (Txt.upper a)) H
theorem mt_oUpper {X : Cx} : MtR X "str.upper" rUpper := mt_upper
theorem cut_len {z : Str} {lo hi : Option Int} : (cutS z lo hi).length ≤ z.length := by
  show (List.toArray _).size ≤ z.cps.size
  rw [List.size_toArray, List.length_take, List.length_drop, Array.length_toList]
  omega
theorem cut_to {z : Str} {k : Nat} : (cutS z none (some (k : Int))).length ≤ k := by
  show (List.toArray _).size ≤ k
  rw [List.size_toArray, List.length_take]
  refine Nat.le_trans (Nat.min_le_left _ _) ?_
  unfold HT.sIx
  dsimp only
  rw [if_neg (by omega)]
  omega
theorem app_len {a b : Str} : (a ++ b).length = a.length + b.length := by
  show (a.cps ++ b.cps).size = _
  rw [Array.size_append]
  rfl
theorem mul_ok14 {z : Str} {n : Int} (h0 : 1 ≤ n) (h1 : n ≤ 1000) (hz : z.length ≤ 1000) : MulOk z n := by
  have hp : z.length * n.toNat ≤ 1000000 := Nat.le_trans (Nat.mul_le_mul hz (show n.toNat ≤ 1000 by omega)) (by decide)
  refine ⟨?_, fun _ _ => ?_, fun _ _ => ?_⟩
  · rw [Bool.or_eq_false_iff]
    exact ⟨decide_eq_false (by omega), decide_eq_false (by omega)⟩
  · have h2 : (1000000 : Int) ≤ (2 ^ 63 - 1) / n := by
      have := Int.ediv_le_ediv (a := n * 1000000) (b := 2 ^ 63 - 1) (c := n) (by omega) (by omega)
      rw [Int.mul_ediv_cancel_left _ (by omega)] at this
      exact this
    omega
  · exact PyProof.Rows.short24 (by omega)
theorem mul_len {z : Str} {n : Int} (h0 : 1 ≤ n) (h1 : n ≤ 1000) (hz : z.length ≤ 1000) : (Txt.mul z n).length ≤ sizeLine := by
  unfold Txt.mul
  rw [if_neg (by omega)]
  split
  · exact Nat.le_trans hz (by decide)
  · exact PySem.fits_reps (PyProof.Rows.short24 (by have hp : z.length * n.toNat ≤ 1000000 := Nat.le_trans (Nat.mul_le_mul hz (show n.toNat ≤ 1000 by omega)) (by decide); omega))
theorem sz1000 {n : Nat} (h : n ≤ 100000) : n ≤ sizeLine := Nat.le_trans h (by decide)
theorem va_ixS {K : PySem.W.Frag} {σ : L2.St} {H : Hp} {ta tb : TE} {z : Str} {i : Int} {c : Nat} (ha : Val ta σ H (.str z)) (hb : Val tb σ H (.int i)) (hz : z.length ≤ sizeLine) (e : atI z.cps.toList i = some c) : Val (tOp (oIx K) ta tb) σ H (.str ⟨#[c]⟩) := va_op ha hb fun _ q => q_ixS hz e q
theorem va_notInS {K : PySem.W.Frag} {σ : L2.St} {H : Hp} {ta tb : TE} {z : Str} {c : Nat} (ha : Val ta σ H (.str ⟨#[c]⟩)) (hb : Val tb σ H (.str z)) : Val (tOp (oNotIn K) ta tb) σ H (.bl (!decide (c ∈ z.cps.toList))) := va_op ha hb fun _ q => q_notInS q
theorem va_addS {K : PySem.W.Frag} {σ : L2.St} {H : Hp} {ta tb : TE} {a b : Str} (ha : Val ta σ H (.str a)) (hb : Val tb σ H (.str b)) (hl : a.length + b.length ≤ sizeLine) : Val (tOp (oAdd K) ta tb) σ H (.str (a ++ b)) := va_op ha hb fun _ q => q_addS hl q
theorem va_slS {K : PySem.W.Frag} {σ : L2.St} {H : Hp} {te : TE} {tl th : TO} {z : Str} {lo hi : Option Int} (ha : Val te σ H (.str z)) (hlo : ∀ Q, Q lo H → tl σ H Q) (hhi : ∀ Q, Q hi H → th σ H Q) (hz : z.length ≤ sizeLine) : Val (tSl (oSl K) te tl th) σ H (.str (cutS z lo hi)) :=
  fun Q q => ha _ (hlo _ (hhi _ (q_slS hz q)))
theorem po_no {σ : L2.St} {H : Hp} : ∀ Q : Option Int → Hp → Prop, Q none H → tNoPart σ H Q := fun _ q => q
theorem po_at {σ : L2.St} {H : Hp} {te : TE} {i : Int} (h : Val te σ H (.int i)) : ∀ Q : Option Int → Hp → Prop, Q (some i) H → tPart te σ H Q := fun _ q => h _ ⟨i, rfl, q⟩
theorem va_up {K : PySem.W.Frag} {σ : L2.St} {H : Hp} {te : TE} {z : Str} (h : Val te σ H (.str z)) (hz : z.length ≤ 5592405) : Val (tBM0 K "str" rUpper te) σ H (.str (Txt.upper z)) := fun Q q => h _ ⟨by first | rfl | trivial | exact ⟨_, rfl⟩, z, rfl, rfl, hz, q⟩
theorem va_mulS {σ : L2.St} {H : Hp} {ta tb : TE} {z : Str} {n : Int} (ha : Val ta σ H (.str z)) (hb : Val tb σ H (.int n)) (hm : MulOk z n) : Val (tOp oMul ta tb) σ H (.str (Txt.mul z n)) := va_op ha hb fun _ q => ⟨hm, q⟩
theorem va_chain {σ : L2.St} {H : Hp} {ta tb tc : TE} {f g : Int → Int → Bool} {i j k : Int} (ha : Val ta σ H (.int i)) (hb : Val tb σ H (.int j)) (hc : Val tc σ H (.int k)) : Val (tChain (oCmp f) (oCmp g) ta tb tc) σ H (.bl (f i j && g j k)) := by
  intro Q q
  refine ha _ (hb _ ?_)
  refine ⟨f i j, rfl, ?_⟩
  cases e : f i j with
  | true =>
    rw [e, Bool.true_and] at q
    exact q_T (hc _ q)
  | false =>
    rw [e, Bool.false_and] at q
    exact q_F q
/-- a name -/
abbrev NameS (z : Str) : Prop := NameL z.cps.toList
noncomputable instance (z : Str) : Decidable (NameS z) := Classical.propDecidable _
theorem ld_is : ("abcdefghijklmnopqrstuvwxyz0123456789" : Str) = St8 (lets ++ digs) := by decide +kernel
theorem str_nil {z : Str} (h : z.length ≤ 0) : z.cps.toList = [] := by
  have e : z.cps.toList.length = 0 := by rw [Array.length_toList]; exact Nat.le_zero.mp h
  exact List.length_eq_zero_iff.mp e
theorem str_cons {z : Str} (h : 1 ≤ z.length) : ∃ c r, z.cps.toList = c :: r := by
  have e : 1 ≤ z.cps.toList.length := by rw [Array.length_toList]; exact h
  cases q : z.cps.toList with
  | nil => rw [q] at e; cases e
  | cons c r => exact ⟨c, r, rfl⟩

/-! ### comprehensions that map one by one -/
theorem q_yesM {σ : L2.St} {H : Hp} {QB : Bool → Hp → Prop} (h : QB true H) : tYes σ H QB := h
theorem lc_map {J : It} {n : Nat} {G : Hp → Prop} {Y : Nat → Hp → V → Hp → Prop} (w : Walk J n G Y) {xs ys : List V} (hx : ∀ i H x H', Y i H x H' → H' = H ∧ xs[i]? = some x) (hn : xs.length = n) (hl : ys.length = n) (hz : ys.length ≤ 1000) {σ : L2.St} {H1 : Hp} {D : Addr} {k : Nat} {te : TE}
    (hD : H1 D = none) (hG : ∀ H, Same H1 H → G H) (hw : ∀ x, wipe ((wipe σ [k]).set k (some x)) [k] = wipe σ [k]) (he : ∀ (i : Nat) (x y : V) (H' : Hp), xs[i]? = some x → ys[i]? = some y → Same H1 H' → Val te ((wipe σ [k]).set k (some x)) H' y) {Qd : Hp → Prop} (kq : Qd (upd H1 D (.lst ys))) :
    ∃ W : Nat → Nat → Hp → Prop, (∃ m, W 0 m (upd H1 D (.lst []))) ∧ ∀ i m H, W i m H →
      (J.stop i H ∧ Qd H) ∨ (J.go i H ∧ ∃ Nx : Hp → Prop, (∀ H', Nx H' → ∃ m', m' < m ∧ W (i + 1) m' H') ∧ ∀ x H', J.yld i H x H' → gName k x (wipe σ [k]) H' fun σ2 H2 => wipe σ2 [k] = wipe σ [k] ∧ tYes σ2 H2 fun b H3 =>
        if b = true then te σ2 H3 fun y H4 => ∃ acc, H4 D = some (.lst acc) ∧ acc.length < sizeLine ∧ Nx (upd H4 D (.lst (acc ++ [y]))) else Nx H3) := by
  refine lc_it w (fun i H => H = upd H1 D (.lst (ys.take i))) (by rw [List.take_zero]) (fun i H _ e => hG H ?_) (fun i x H H' hi e y => ?_) (fun H e => ?_)
  · rw [e]
    exact same_new hD
  · obtain ⟨e1, ex⟩ := hx i H x H' y
    subst e1 e
    have hi' : i < ys.length := by omega
    refine q_name ⟨hw x, q_yesM ?_⟩
    refine q_T ?_
    refine he i x ys[i] _ ex (List.getElem?_eq_getElem hi') (same_new hD) _ ⟨_, upd_same, ?_, ?_⟩
    · rw [List.length_take]
      exact Nat.lt_of_le_of_lt (Nat.le_trans (Nat.min_le_right _ _) hz) (by decide)
    · rw [upd_upd, List.take_add_one, List.getElem?_eq_getElem hi']
      rfl
  · subst e
    rw [← hl, List.take_length]
    exact kq
section
variable {K : PySem.W.Frag} {a : Addr} {xs ys : List V} {σ : L2.St} {H : Hp} {k : Nat} {te te0 : TE} {Q : VK}
theorem q_lcT (e : Val te0 σ H (.ref a)) (ha : H a = some (.tup xs)) (hl : ys.length = xs.length) (hz : ys.length ≤ 1000) (hw : ∀ x, wipe ((wipe σ [k]).set k (some x)) [k] = wipe σ [k])
    (he : ∀ (i : Nat) (x y : V) (H' : Hp), xs[i]? = some x → ys[i]? = some y → Same H H' → Val te ((wipe σ [k]).set k (some x)) H' y) (kq : ∀ D, H D = none → Q (.ref D) (upd H D (.lst ys))) : tLc (iAny K te0) (gName k) tYes te [k] σ H Q :=
  Or.inr (Or.inl (e _ ⟨a, rfl, ⟨xs, SqT.of ha⟩, fun D hD => lc_map walk_tup (fun _ _ _ _ y => y) rfl hl hz hD (fun H' s => SqT.of (s _ _ ha)) hw he (kq D hD)⟩))
theorem q_lcL (e : Val te0 σ H (.ref a)) (ha : H a = some (.lst xs)) (hl : ys.length = xs.length) (hz : ys.length ≤ 1000) (hw : ∀ x, wipe ((wipe σ [k]).set k (some x)) [k] = wipe σ [k])
    (he : ∀ (i : Nat) (x y : V) (H' : Hp), xs[i]? = some x → ys[i]? = some y → Same H H' → Val te ((wipe σ [k]).set k (some x)) H' y) (kq : ∀ D, H D = none → Q (.ref D) (upd H D (.lst ys))) : tLc (iAny K te0) (gName k) tYes te [k] σ H Q :=
  Or.inl (e _ ⟨a, rfl, ⟨xs, SqL.of ha⟩, fun D hD => lc_map walk_list (fun _ _ _ _ y => y) rfl hl hz hD (fun H' s => SqL.of (s _ _ ha)) hw he (kq D hD)⟩)
theorem q_lcS {z : Str} (e : Val te0 σ H (.str z)) (hl : ys.length = z.length) (hz : ys.length ≤ 1000) (hw : ∀ x, wipe ((wipe σ [k]).set k (some x)) [k] = wipe σ [k])
    (he : ∀ (i c : Nat) (y : V) (H' : Hp), z.cps.toList[i]? = some c → ys[i]? = some y → Same H H' → Val te ((wipe σ [k]).set k (some (.str ⟨#[c]⟩))) H' y) (kq : ∀ D, H D = none → Q (.ref D) (upd H D (.lst ys))) : tLc (iAny K te0) (gName k) tYes te [k] σ H Q := by
  refine Or.inr (Or.inr (e _ ⟨z, rfl, fun D hD => lc_map (xs := z.cps.toList.map fun c => V.str ⟨#[c]⟩) walk_str (fun i H x H' y => ?_) (by rw [List.length_map, Array.length_toList]) hl hz hD (fun _ _ => True.intro) hw (fun i x y H' hx hy s => ?_) (kq D hD)⟩))
  · obtain ⟨e1, c, hc, ev⟩ := y
    refine ⟨e1, ?_⟩
    rw [List.getElem?_map, Array.getElem?_toList, hc, ev]
    rfl
  · rw [List.getElem?_map] at hx
    obtain ⟨c, hc, rfl⟩ := Option.map_eq_some_iff.mp hx
    exact he i c y H' hc hy s
end

/-! ### data made of tuples alone -/
mutual
inductive Tp (H : Hp) : V → PyData → Prop
  | non : Tp H .non .none
  | int (i : Int) : Tp H (.int i) (.int i)
  | str (x : Str) : Tp H (.str x) (.str x)
  | tup {a : Addr} {xs : List V} {ds : List PyData} : H a = some (.tup xs) → xs.length ≤ 1000000 → TpA H xs ds → Tp H (.ref a) (.tuple ds)
inductive TpA (H : Hp) : List V → List PyData → Prop
  | nil : TpA H [] []
  | cons {x : V} {d : PyData} {xs : List V} {ds : List PyData} : Tp H x d → TpA H xs ds → TpA H (x :: xs) (d :: ds)
end
mutual
theorem Tp.mono {H H' : Hp} (k : Tk H H') : ∀ {x : V} {d : PyData}, Tp H x d → Tp H' x d
  | _, _, .non => .non
  | _, _, .int i => .int i
  | _, _, .str x => .str x
  | _, _, .tup h l r => .tup (k _ _ h) l (TpA.mono k r)
theorem TpA.mono {H H' : Hp} (k : Tk H H') : ∀ {xs : List V} {ds : List PyData}, TpA H xs ds → TpA H' xs ds
  | _, _, .nil => .nil
  | _, _, .cons a b => .cons (Tp.mono k a) (TpA.mono k b)
end
mutual
theorem Tp.rp {H : Hp} : ∀ {x : V} {d : PyData}, Tp H x d → Rp H x d
  | _, _, .non => .non
  | _, _, .int i => .int i
  | _, _, .str x => .str x
  | _, _, .tup h l r => .tup h l (TpA.rp r)
theorem TpA.rp {H : Hp} : ∀ {xs : List V} {ds : List PyData}, TpA H xs ds → RpA H xs ds
  | _, _, .nil => .nil
  | _, _, .cons a b => .cons (Tp.rp a) (TpA.rp b)
end
theorem TpA.len {H : Hp} : ∀ {xs : List V} {ds : List PyData}, TpA H xs ds → xs.length = ds.length
  | _, _, .nil => rfl
  | _, _, .cons _ t => by rw [List.length_cons, List.length_cons, TpA.len t]
theorem TpA.app {H : Hp} : ∀ {xs ys : List V} {ds es : List PyData}, TpA H xs ds → TpA H ys es → TpA H (xs ++ ys) (ds ++ es)
  | _, _, _, _, .nil, b => b
  | _, _, _, _, .cons a t, b => .cons a (TpA.app t b)
theorem TpA.at {H : Hp} : ∀ {xs : List V} {ds : List PyData} {i : Nat} {x : V}, TpA H xs ds → xs[i]? = some x → ∃ d, ds[i]? = some d ∧ Tp H x d
  | _, _, _, _, .nil, e => by cases e
  | _, _, 0, _, .cons r _, e => by cases e; exact ⟨_, rfl, r⟩
  | _, _, i + 1, _, .cons _ t, e => by
    obtain ⟨d, h1, h2⟩ := TpA.at (i := i) t e
    exact ⟨d, h1, h2⟩
theorem Tp.four {H : Hp} {x : V} {d1 d2 d3 d4 : PyData} (h : Tp H x (.tuple [d1, d2, d3, d4])) : ∃ a v1 v2 v3 v4, x = .ref a ∧ H a = some (.tup [v1, v2, v3, v4]) ∧ Tp H v1 d1 ∧ Tp H v2 d2 ∧ Tp H v3 d3 ∧ Tp H v4 d4 := by
  cases h with
  | tup h l r =>
    cases r with
    | cons r1 r =>
      cases r with
      | cons r2 r =>
        cases r with
        | cons r3 r =>
          cases r with
          | cons r4 r =>
            cases r
            exact ⟨_, _, _, _, _, rfl, h, r1, r2, r3, r4⟩
theorem Tp.two {H : Hp} {x : V} {d1 d2 : PyData} (h : Tp H x (.tuple [d1, d2])) : ∃ a v1 v2, x = .ref a ∧ H a = some (.tup [v1, v2]) ∧ Tp H v1 d1 ∧ Tp H v2 d2 := by
  cases h with
  | tup h l r =>
    cases r with
    | cons r1 r =>
      cases r with
      | cons r2 r =>
        cases r
        exact ⟨_, _, _, rfl, h, r1, r2⟩
theorem Tp.strI {H : Hp} {x : V} {z : Str} (h : Tp H x (.str z)) : x = .str z := by cases h; rfl
theorem Tp.mk2 {H : Hp} {a : Addr} {v1 v2 : V} {d1 d2 : PyData} (h : H a = some (.tup [v1, v2])) (r1 : Tp H v1 d1) (r2 : Tp H v2 d2) : Tp H (.ref a) (.tuple [d1, d2]) := .tup h (show 2 ≤ 1000000 by decide) (.cons r1 (.cons r2 .nil))
theorem Tp.mk4 {H : Hp} {a : Addr} {v1 v2 v3 v4 : V} {d1 d2 d3 d4 : PyData} (h : H a = some (.tup [v1, v2, v3, v4])) (r1 : Tp H v1 d1) (r2 : Tp H v2 d2) (r3 : Tp H v3 d3) (r4 : Tp H v4 d4) : Tp H (.ref a) (.tuple [d1, d2, d3, d4]) := .tup h (show 4 ≤ 1000000 by decide) (.cons r1 (.cons r2 (.cons r3 (.cons r4 .nil))))
theorem Tp.mk0 {H : Hp} {a : Addr} (h : H a = some (.tup [])) : Tp H (.ref a) (.tuple []) := .tup h (show 0 ≤ 1000000 by decide) .nil
/-! unpacking a tuple of four into four names -/
theorem q_unp4 {K : PySem.W.Frag} {σ : L2.St} {H : Hp} {a : Addr} {v1 v2 v3 v4 : V} {i j k l : Nat} {QS : L2.St → Hp → Prop} (h : H a = some (.tup [v1, v2, v3, v4])) (q : QS ((((σ.set i (some v1)).set j (some v2)).set k (some v3)).set l (some v4)) H) :
    gTup K 4 (gCons (gName i) (gCons (gName j) (gCons (gName k) (gCons (gName l) gNil)))) (.ref a) σ H QS := ⟨a, _, rfl, SqT.of h, rfl, _, _, rfl, _, _, rfl, _, _, rfl, _, _, rfl, rfl, q⟩

/-! ### arguments, read now -/
abbrev Cell := Str × Int
def cellD (c : Cell) : PyData := .tuple [.str c.1, .int c.2]
/-- the cell c is the j-th, and no earlier one has its name -/
def Nth (cs : List Cell) (c : Str) (j : Nat) : Prop := (∃ z, cs[j]? = some (c, z)) ∧ ∀ m e, m < j → cs[m]? = some e → e.1 ≠ c
theorem Nth.uniq {cs : List Cell} {c : Str} {i j : Nat} (a : Nth cs c i) (b : Nth cs c j) : i = j := by
  obtain ⟨⟨z, hz⟩, ha⟩ := a
  obtain ⟨⟨y, hy⟩, hb⟩ := b
  rcases Nat.lt_trichotomy i j with h | h | h
  · exact absurd rfl (hb i _ h hz)
  · exact h
  · exact absurd rfl (ha j _ h hy)
def CellsL (H : Hp) (cp : Addr) (cs : List Cell) : Prop := ∃ xs, H cp = some (.lst xs) ∧ TpA H xs (cs.map cellD)
theorem cell_at {H : Hp} {xs : List V} {cs : List Cell} {i : Nat} (h : TpA H xs (cs.map cellD)) (hi : i < cs.length) : ∃ a, xs[i]? = some (.ref a) ∧ H a = some (.tup [.str cs[i].1, .int cs[i].2]) := by
  have hl : i < xs.length := by rw [h.len, List.length_map]; exact hi
  obtain ⟨d, e, r⟩ := h.at (List.getElem?_eq_getElem hl)
  rw [List.getElem?_map, List.getElem?_eq_getElem hi] at e
  cases e
  obtain ⟨a, v1, v2, e1, ha, r1, r2⟩ := r.two
  refine ⟨a, by rw [List.getElem?_eq_getElem hl, e1], ?_⟩
  cases r1
  cases r2
  exact ha
theorem int_at {ns : List Int} {i : Nat} {n : Int} (h : ns[i]? = some n) : atI (ns.map V.int) (i : Int) = some (.int n) := at_of (by omega) (by rw [Int.toNat_natCast, List.getElem?_map, h]; rfl)

theorem q_yes {σ : L2.St} {H : Hp} {QB : Bool → Hp → Prop} (h : QB true H) : tYes σ H QB := h
/-! ### books: their cells -/
def cellK (c : Cell) : Key × V := (Sum.inr c.1, V.int c.2)
def BookZ (A : Ad) (H : Hp) (b : Addr) (cs : List Cell) : Prop := ∃ dx fs zp, H b = some (.ins A.c_Book dx fs) ∧ fs.lookup ("_sizes" : Str) = some (V.ref zp) ∧ H zp = some (.dK (cs.map cellK))
/-- no two of the names are alike -/
def Dis (cs : List Cell) : Prop := ∀ i c, cs[i]? = some c → Nth cs c.1 i
/-- the names stand in their order -/
def Asc (cs : List Cell) : Prop := ∀ ys : List Str, ys.Perm (cs.map (·.1)) → sortedS ys = true → ys = cs.map (·.1)
theorem val_cells : ∀ {cs : List Cell} {i : Nat} {c : Cell}, cs[i]? = some c → (∀ m e, m < i → cs[m]? = some e → e.1 ≠ c.1) → valV (cs.map cellK) (Sum.inr c.1) = some (.int c.2)
  | [], _, _, h, _ => by cases h
  | x :: r, 0, c, h, _ => by
    cases h
    exact valV_pos rfl
  | x :: r, i + 1, c, h, hn => by
    have : x.1 ≠ c.1 := hn 0 x (Nat.succ_pos _) rfl
    rw [List.map_cons, valV_neg (fun z => this (Sum.inr.inj z))]
    exact val_cells (i := i) h fun m e hm he => hn (m + 1) e (Nat.succ_lt_succ hm) he
theorem q_ckw {r : List V → List V → Hp → VK → Prop} {t tk : TA} {σ : L2.St} {H : Hp} {Q : VK} (h : t σ H fun vs H1 => tk σ H1 fun zs H2 => r vs zs H2 Q) : tCKw r t tk σ H Q := h
def sp_Book_cells (_ : PySem.W.Frag) (A : Ad) : Sp := Sp1 fun x H Q _ => ∃ b cs, x = .ref b ∧ BookZ A H b cs ∧ Dis cs ∧ Asc cs ∧ cs.length ≤ 2 ∧ ∀ t ys H', Same H H' → (∃ o, PlainT o ∧ H' t = some (.frz o (.tup ys))) → TpA H' ys (cs.map cellD) → Q (.ref t) H'
def t_Book_cells (K : PySem.W.Frag) (A : Ad) : TS :=
  (tRet (tCB (cTupF K) (tCons (tLc (iAny K (tCKw rSortDK (tCons (tFldC A.c_Book "_sizes" (tVar 0)) tNil) (tCons (tC (.ty "str")) tNil))) (gName 1) tYes (tTup (tCons (tVar 1) (tCons (tOp (oIxX K) (tFldC A.c_Book "_sizes" (tVar 0)) (tVar 1)) tNil))) [1]) tNil)))
theorem pure_Book_cells {K : PySem.W.Frag} {A : Ad} {vs : List V} {H : Hp} {Q : VK} {E : XK} (h : sp_Book_cells K A vs H Q E) : t_Book_cells K A { nx := fun _ H' => Q .non H', rt := Q } (start ["self", "name"] vs) H := by
  obtain ⟨_, rfl, b, cs, rfl, ⟨dx, fs, zp, hb, hl, hz⟩, hD, hA, h2, k⟩ := h
  unfold t_Book_cells
  refine q_ret (q_cb (q_cons ?_))
  refine Or.inl ?_
  refine q_ckw (q_cons (q_fldC (q_var rfl ⟨b, dx, fs, .ref zp, rfl, hb, hl, ?_⟩)))
  refine q_nil (q_cons (q_c (q_nil ⟨zp, cs.map cellK, cs.map (·.1), rfl, rfl, .inl hz, by rw [List.map_map, List.map_map]; rfl, by rw [List.length_map]; omega, fun ys l hp hs hnl => ?_⟩)))
  have ey := hA ys hp hs
  subst ey
  refine ⟨l, rfl, ⟨_, SqL.of upd_same⟩, fun D hnD => ?_⟩
  have S1 := same_new (o := .lst ((cs.map (·.1)).map V.str)) hnl
  have e1 : upd H l (.lst ((cs.map (·.1)).map V.str)) l = some (.lst ((cs.map (·.1)).map V.str)) := upd_same
  generalize upd H l (.lst ((cs.map (·.1)).map V.str)) = H1 at S1 e1 hnD ⊢
  refine lc_list (K := K) (a := l) (xs := (cs.map (·.1)).map V.str) (fun i H' => ∃ acc, H' D = some (.lst acc) ∧ TpA H' acc ((cs.take i).map cellD) ∧ Same H1 H') ⟨[], upd_same, by rw [List.take_zero]; exact .nil, same_new hnD⟩ (fun i H' _ ⟨acc, _, _, s⟩ => SqL.of (s _ _ e1)) ?_ ?_
  · rintro i x H' hx ⟨acc, ha, ht, s⟩
    rw [List.map_map, List.getElem?_map] at hx
    obtain ⟨c, hc, rfl⟩ := Option.map_eq_some_iff.mp hx
    have hi : i < cs.length := (List.getElem?_eq_some_iff.mp hc).1
    have S' := S1.trans s
    refine ⟨rfl, ?_⟩
    refine q_yes ?_
    refine q_T ?_
    refine q_tup (q_cons (q_var rfl (q_cons (q_op (q_fldC (q_var rfl ⟨b, dx, fs, .ref zp, rfl, S' _ _ hb, hl, ?_⟩))))))
    refine q_var rfl ?_
    refine q_ixD (k := Sum.inr c.1) (S' _ _ hz) (val_cells hc (hD i c hc).2) ?_
    refine q_nil ⟨by show 2 ≤ sizeLine; decide, fun t hnt => ?_⟩
    have nDt : D ≠ t := fun z => by rw [← z, ha] at hnt; cases hnt
    have s2 := same_new (o := .tup [.str c.1, .int c.2]) hnt
    have la : acc.length = i := by rw [ht.len, List.length_map, List.length_take]; omega
    refine ⟨acc, s2 _ _ ha, by rw [la, sizeLine_eq]; omega, acc ++ [.ref t], upd_same, ?_, ?_⟩
    · have kt : Tk H' (upd (upd H' t (.tup [.str c.1, .int c.2])) D (.lst (acc ++ [.ref t]))) := (Tk.same s2).trans (Tk.lst (s2 _ _ ha))
      rw [List.take_add_one, hc, List.map_append]
      refine TpA.app (ht.mono kt) ?_
      exact .cons (.mk2 (by rw [upd_ne (Ne.symm nDt)]; exact upd_same) (.str _) (.int _)) .nil
    · intro a o e
      have nd : a ≠ D := fun z => by rw [z, hnD] at e; cases e
      rw [upd_ne nd]
      exact s2 _ _ (s _ _ e)
  · rintro H' ⟨acc, ha, ht, s⟩
    rw [List.length_map, List.length_map, List.take_of_length_le (Nat.le_refl _)] at ht
    refine q_nil ⟨D, acc, rfl, SqL.of ha, fun t o hnt po => ?_⟩
    have s2 := same_new (o := .frz o (.tup acc)) hnt
    exact k t acc _ ((S1.trans s).trans s2) ⟨o, po, upd_same⟩ (ht.mono (Tk.same s2))
theorem sqT_frz {K : PySem.W.Frag} {H : Hp} {a : Addr} {o : Obj} {xs : List V} (h : H a = some (.frz o (.tup xs))) : SqT K H a xs := .inl (.inr ⟨o, h⟩)
theorem cells_pairs {K : PySem.W.Frag} {H : Hp} : ∀ {cs : List Cell} {ys : List V}, TpA H ys (cs.map cellD) → ∃ ps : List Addr, ys = ps.map V.ref ∧ Paired (fun p (kv : Key × V) => SqT K H p [kV kv.1, kv.2]) ps (cs.map cellK)
  | [], _, h => by
    cases h
    exact ⟨[], rfl, .nil⟩
  | c :: cs, _, h => by
    cases h with
    | cons h1 h2 =>
      obtain ⟨ps, rfl, hp⟩ := cells_pairs (K := K) h2
      obtain ⟨a, v1, v2, rfl, ha, r1, r2⟩ := h1.two
      cases r1
      cases r2
      exact ⟨a :: ps, rfl, .cons (SqT.of ha) hp⟩
theorem merge_cells {cs : List Cell} (hD : Dis cs) (h2 : cs.length ≤ 2) : mergeK [] (cs.map cellK) = cs.map cellK := by
  match cs, h2 with
  | [], _ => rfl
  | [c], _ => rfl
  | [c, d], _ =>
    have n : c.1 ≠ d.1 := (hD 1 d rfl).2 0 c (by decide) rfl
    simp [mergeK, putK, cellK, n]
/-- dict(book.cells) -/
theorem q_dictC {K : PySem.W.Frag} {A : Ad} {te : TE} {σ : L2.St} {H : Hp} {Q : VK} {b : Addr} {cs : List Cell} (e : Val te σ H (.ref b)) (hB : BookZ A H b cs) (hD : Dis cs) (hA : Asc cs) (h2 : cs.length ≤ 2) (k : ∀ d H', Same H H' → H' d = some (.dK (cs.map cellK)) → Q (.ref d) H') : tCB (rDictT K) (tCons (tProp A.c_Book (sp_Book_cells K A) [] E0 te) tNil) σ H Q := by
  obtain ⟨dx, fs, zp, hb, hh⟩ := id hB
  refine q_cb (q_cons (q_prp (e _ ⟨b, dx, fs, rfl, hb, _, rfl, b, cs, rfl, hB, hD, hA, h2, fun t ys H1 S1 ht hys => q_nil ?_⟩)))
  obtain ⟨o, po, ht⟩ := ht
  obtain ⟨ps, rfl, hp⟩ := cells_pairs (K := K) hys
  refine ⟨t, o, ps, _, rfl, ht, po, hp, fun d hd => ?_⟩
  rw [merge_cells hD h2]
  exact k d _ (S1.trans (same_new hd)) upd_same

/-! ### a book is made -/
def Ex (p : Addr) (H H' : Hp) : Prop := ∀ a o, a ≠ p → H a = some o → H' a = some o
theorem Ex.same {p : Addr} {H H' : Hp} (s : Same H H') : Ex p H H' := fun a o _ h => s a o h
theorem Ex.trans {p : Addr} {H H1 H2 : Hp} (a : Ex p H H1) (b : Ex p H1 H2) : Ex p H H2 := fun q o h e => b q o h (a q o h e)
theorem Ex.upd {p : Addr} {H : Hp} {o : HO} : Ex p H (upd H p o) := fun q u h e => by rw [upd_ne h]; exact e
theorem Ex.to {p : Addr} {H H1 H2 : Hp} (hp : H p = none) (s : Same H H1) (e : Ex p H1 H2) : Same H H2 := fun q o h => e q o (fun z => by rw [z, hp] at h; cases h) (s q o h)
/-- step kinds -/
inductive KindV (H : Hp) : V → Prop
  | plain {a : Addr} (h : H a = some (.tup [.str "plain"])) : KindV H (.ref a)
  | num {a : Addr} {w : Str} {n : Int} (hw : w = "answer" ∨ w = "heal") (h0 : 0 ≤ n) (h1 : n < 1000) (h : H a = some (.tup [.str w, .int n])) : KindV H (.ref a)
  | nam {a : Addr} {w z : Str} (hw : w = "jump" ∨ w = "swap") (hz : NameS z) (h : H a = some (.tup [.str w, .str z])) : KindV H (.ref a)
theorem KindV.mono {H H' : Hp} {v : V} (k : Tk H H') (h : KindV H v) : KindV H' v := by
  cases h with
  | plain h => exact .plain (k _ _ h)
  | num hw h0 h1 h => exact .num hw h0 h1 (k _ _ h)
  | nam hw hz h => exact .nam hw hz (k _ _ h)
theorem NameS.len {z : Str} (h : NameS z) : z.length ≤ 12 := by
  have h1 := NameL.len h
  rw [Array.length_toList] at h1
  exact h1
theorem NameS.pos {z : Str} (h : NameS z) : 1 ≤ z.length := by
  obtain ⟨c, r, e, _⟩ := NameL.fst h
  have : z.cps.toList.length = z.length := by rw [Array.length_toList]; rfl
  rw [← this, e]
  exact Nat.le_add_left _ _
theorem NameS.ok {z : Str} (h : NameS z) : PyData.strOk z = true := by
  unfold PyData.strOk
  rw [← Array.all_toList, List.all_eq_true]
  intro c hc
  have hm := NameL.all h c hc
  have : ∀ c ∈ lets ++ digs, decide (c < 0x110000) = true := by decide
  exact this c hm
theorem bi_all : bootBuiltins "all" = some (.builtin "all") := by decide +kernel
theorem Same.none {H H' : Hp} (s : Same H H') {a : Addr} (h : H' a = .none) : H a = .none := by
  cases q : H a with
  | none => rfl
  | some o => rw [s _ _ q] at h; cases h
theorem va_inS {K : PySem.W.Frag} {σ : L2.St} {H : Hp} {ta tb : TE} {z : Str} {c : Nat} (ha : Val ta σ H (.str ⟨#[c]⟩)) (hb : Val tb σ H (.str z)) : Val (tOp (oIn K) ta tb) σ H (.bl (decide (c ∈ z.cps.toList))) := va_op ha hb fun _ q => q_inS q
def sp_is_name (_ : PySem.W.Frag) (_ : Ad) : Sp := Sp1 fun x H Q _ => ∃ z : Str, x = .str z ∧ NameS z ∧ ∀ H', Same H H' → Q (.bl true) H'
def t_is_name (K : PySem.W.Frag) (A : Ad) : TS :=
  (tSeq (tIfS (tOr (tNot (tTest (tChain oLe oLe (tC (.int 1)) (tCB (cLen K) (tCons (tVar 0) tNil)) (tC g_LONGEST_NAME)))) (tTest (tOp (oNotIn K) (tOp (oIx K) (tVar 0) (tC (.int 0))) (tC g_LETTERS))))
  (tRet (tC (.bl false)))
  tNext)
  (tRet (tCB (rAll K) (tCons (tLc (iAny K (tVar 0)) (gName 1) tYes (tOp (oIn K) (tVar 1) (tC g_LETTERS_AND_DIGITS)) [1]) tNil))))
theorem pure_is_name {K : PySem.W.Frag} {A : Ad} {vs : List V} {H : Hp} {Q : VK} {E : XK} (h : sp_is_name K A vs H Q E) : t_is_name K A { nx := fun _ H' => Q .non H', rt := Q } (start ["text", "letter"] vs) H := by
  obtain ⟨_, rfl, z, rfl, hz, k⟩ := h
  have l1 := NameS.len hz
  have l2 := NameS.pos hz
  have hlen : z.cps.toList.length = z.length := by rw [Array.length_toList]; rfl
  obtain ⟨c, r, hcr, hcl⟩ := NameL.fst hz
  unfold t_is_name
  refine q_seq ?_
  have hc : Ans (tNot (tTest (tChain oLe oLe (tC (.int 1)) (tCB (cLen K) (tCons (tVar 0) tNil)) (tC g_LONGEST_NAME)))) (start ["text", "letter"] [.str z]) H (!(decide ((1 : Int) ≤ z.length) && decide ((z.length : Int) ≤ 12))) := an_not (an_test (va_chain va_c (va_lenS (ar := tNil) (va_var rfl) (sz1000 (by omega))) va_c))
  refine q_ifA (Ans.to (an_or hc fun _ => an_test (va_notInS (c := c) (va_ixS (va_var rfl) va_c (sz1000 (by omega)) (by rw [hcr]; exact at_of (by decide) rfl)) va_c)) (b1 := false) ?_) (fun e => nomatch e) (fun _ => ?_)
  · rw [lets_is, st8_list, decide_eq_true hcl, decide_eq_true (by omega), decide_eq_true (by omega)]
    rfl
  · refine q_next ?_
    dsimp only
    refine q_ret (q_cb (q_cons ?_))
    refine q_lcS (z := z) (ys := z.cps.toList.map fun _ => V.bl true) (va_var rfl) (by rw [List.length_map, hlen]) (by rw [List.length_map, hlen]; omega) (fun x => rfl) (fun i c2 y H' hc2 hy _ => ?_) fun D hD => ?_
    · rw [List.getElem?_map, hc2] at hy
      cases hy
      have v : Val (tOp (oIn K) (tVar 1) (tC g_LETTERS_AND_DIGITS)) ((wipe (start ["text", "letter"] [V.str z]) [1]).set 1 (some (.str ⟨#[c2]⟩))) H' _ := va_inS (c := c2) (va_var rfl) va_c
      rw [ld_is, st8_list, decide_eq_true (NameL.all hz c2 (List.mem_of_getElem? hc2))] at v
      exact v
    · refine q_nil ⟨D, z.cps.toList.map fun _ => true, rfl, by rw [List.map_map]; exact SqL.of upd_same, ?_⟩
      have : (z.cps.toList.map fun _ => true).all id = true := by
        rw [List.all_map, List.all_eq_true]
        exact fun _ _ => rfl
      rw [this]
      exact k _ (same_new hD)
def sp_check_name (_ : PySem.W.Frag) (_ : Ad) : Sp := Sp1 fun x H Q _ => ∃ z : Str, x = .str z ∧ NameS z ∧ ∀ H', Same H H' → Q (.str z) H'
def t_check_name (K : PySem.W.Frag) (A : Ad) : TS :=
  (tSeq (tIfS (tNot (tB (tCall (sp_is_name K A) [] E0 (tCons (tVar 0) tNil))))
  tNever
  tNext)
  (tRet (tVar 0)))
theorem pure_check_name {K : PySem.W.Frag} {A : Ad} {vs : List V} {H : Hp} {Q : VK} {E : XK} (h : sp_check_name K A vs H Q E) : t_check_name K A { nx := fun _ H' => Q .non H', rt := Q } (start ["name"] vs) H := by
  obtain ⟨_, rfl, z, rfl, hz, k⟩ := h
  unfold t_check_name
  refine q_seq (q_ifS (q_not (q_tB (q_call (q_cons (q_var rfl (q_nil (s1 ⟨z, rfl, hz, fun H1 s => ?_⟩))))))))
  refine ⟨true, rfl, q_F ?_⟩
  refine q_next ?_
  walk_at "rd"
  exact k _ s
def IsNum (n : Int) : Prop := 0 ≤ n ∧ n ≤ 999
instance (n : Int) : Decidable (IsNum n) := inferInstanceAs (Decidable (0 ≤ n ∧ n ≤ 999))
def sp_check_number (_ : PySem.W.Frag) (A : Ad) : Sp := Sp1 fun x H Q E => ∃ n : Int, x = .int n ∧ (IsNum n → Q (.int n) H) ∧ (¬ IsNum n → ∀ d, H d = none → E (.ref A.c_BadNumber) (some d) (upd H d (.xd [("number", .int n)])))
def t_check_number (K : PySem.W.Frag) (A : Ad) (E : XK) : TS :=
  (tSeq (tIfS (tNot (tTest (tChain oLe oLe (tC (.int 0)) (tVar 0) (tC g_GREATEST_NUMBER))))
  (tRaiseE A.c_BadNumber "number" (fun cls d _ H => E cls d H) (tCons (tVar 0) tNil))
  tNext)
  (tRet (tVar 0)))
theorem pure_check_number {K : PySem.W.Frag} {A : Ad} {vs : List V} {H : Hp} {Q : VK} {E : XK} (h : sp_check_number K A vs H Q E) : t_check_number K A E { nx := fun _ H' => Q .non H', rt := Q } (start ["number"] vs) H := by
  obtain ⟨_, rfl, n, rfl, k1, k2⟩ := h
  unfold t_check_number
  refine q_seq (q_ifA (an_not (an_test (va_chain va_c (va_var rfl) va_c))) (fun e => ?_) (fun e => ?_))
  · have e' : ¬ IsNum n := fun z => by
      rw [decide_eq_true z.1, decide_eq_true z.2] at e
      cases e
    exact q_raise (q_cons (q_var rfl (q_nil ⟨_, rfl, fun d hd => k2 e' d hd⟩)))
  · have e' : IsNum n := by
      have z : (decide (0 ≤ n) && decide (n ≤ 999)) = true := by
        cases q : (decide (0 ≤ n) && decide (n ≤ 999)) with
        | true => rfl
        | false => rw [q] at e; cases e
      rw [Bool.and_eq_true] at z
      exact ⟨of_decide_eq_true z.1, of_decide_eq_true z.2⟩
    walk_at "rd"
    exact k1 e'
def sp_at_most (_ : PySem.W.Frag) (_ : Ad) : Sp := Sp2 fun x y H Q _ => ∃ (p : Addr) (kvs : List (Key × V)) (n : Int), x = .ref p ∧ y = .int n ∧ H p = some (.dK kvs) ∧ (kvs.length : Int) ≤ n ∧ Q (.ref p) H
def t_at_most (K : PySem.W.Frag) (A : Ad) : TS :=
  (tSeq (tIfS (tTest (tOp oGt (tCB (cLenX K) (tCons (tVar 0) tNil)) (tVar 1)))
  tNever
  tNext)
  (tRet (tVar 0)))
theorem pure_at_most {K : PySem.W.Frag} {A : Ad} {vs : List V} {H : Hp} {Q : VK} {E : XK} (h : sp_at_most K A vs H Q E) : t_at_most K A { nx := fun _ H' => Q .non H', rt := Q } (start ["entries", "most"] vs) H := by
  obtain ⟨_, _, rfl, p, kvs, n, rfl, rfl, hp, hl, k⟩ := h
  unfold t_at_most
  refine q_seq (q_ifS (q_test (q_op (q_cb (q_cons (q_var rfl (q_nil (q_lenD hp ?_))))))))
  refine q_var rfl (q_gtI ⟨_, rfl, ?_⟩)
  refine q_decF (by omega) ?_
  walk_at "rd"
  exact k
theorem shapedK {w : Str} {d : PyData} (hw : PyData.strOk w = true) (hd : (∃ n, d = .int n) ∨ ∃ z, d = .str z ∧ PyData.strOk z = true) : SeqAt.shaped (.tuple [.str w, d]) = true := by
  rcases hd with ⟨n, rfl⟩ | ⟨z, rfl, hz⟩
  · simp [SeqAt.shaped, PyData.canLay0, PyData.canLayAll0, PyData.depth, PyData.depthAll, hw]
  · simp [SeqAt.shaped, PyData.canLay0, PyData.canLayAll0, PyData.depth, PyData.depthAll, hw, hz]
theorem shapedP : SeqAt.shaped (.tuple [.str "plain"]) = true := by decide +kernel
def sp_check_kind (_ : PySem.W.Frag) (_ : Ad) : Sp := Sp1 fun x H Q _ => KindV H x ∧ ∀ H', Same H H' → Q .non H'
def t_check_kind (K : PySem.W.Frag) (A : Ad) : TS :=
  (tSeq (tIfS (tTest (tOp (oEq K) (tVar 0) (tTup (tCons (tC (.str "plain")) tNil))))
  tRetN
  tNext)
  (tSeq (tIfS (tOr (tTest (tOp (oNe K) (tCB (cLen K) (tCons (tVar 0) tNil)) (tC (.int 2)))) (tTest (tOp (oNotIn K) (tOp (oIx K) (tVar 0) (tC (.int 0))) (tOp (oAdd K) (tC (.ref A.t_KINDS_WITH_NUMBER)) (tC (.ref A.t_KINDS_WITH_NAME))))))
  tNever
  tNext)
  (tIfS (tTest (tOp (oIn K) (tOp (oIx K) (tVar 0) (tC (.int 0))) (tC (.ref A.t_KINDS_WITH_NUMBER))))
  (tDrop (tCall (sp_check_number K A) [] E0 (tCons (tOp (oIx K) (tVar 0) (tC (.int 1))) tNil)))
  (tDrop (tCall (sp_check_name K A) [] E0 (tCons (tOp (oIx K) (tVar 0) (tC (.int 1))) tNil))))))
theorem pure_check_kind {K : PySem.W.Frag} {A : Ad} (TX : Caught K A) {vs : List V} {H : Hp} {Q : VK} {E : XK} (h : sp_check_kind K A vs H Q E) : t_check_kind K A { nx := fun _ H' => Q .non H', rt := Q } (start ["kind"] vs) H := by
  obtain ⟨x, rfl, hk, k⟩ := h
  -- a kind of two parts
  have two : ∀ (a : Addr) (w : Str) (v : V) (d : PyData), x = .ref a → H a = some (.tup [.str w, v]) → (w = "answer" ∨ w = "heal" ∨ w = "jump" ∨ w = "swap") → (∀ H : Hp, Dp K H v d) → ((∃ n, d = .int n) ∨ ∃ z, d = .str z ∧ PyData.strOk z = true) →
      ((w = "answer" ∨ w = "heal") → ∃ n, v = .int n ∧ 0 ≤ n ∧ n < 1000) → (¬ (w = "answer" ∨ w = "heal") → ∃ z, v = .str z ∧ NameS z) →
      t_check_kind K A { nx := fun _ H' => Q .non H', rt := Q } (start ["kind"] [x]) H := by
    intro a w v d ex ha hw hv hd hn hz
    subst ex
    have hwo : PyData.strOk w = true := by rcases hw with rfl | rfl | rfl | rfl <;> decide +kernel
    unfold t_check_kind
    refine q_seq (q_ifS (q_test (q_op (q_var rfl (q_tup (q_cons (q_c (q_nil ⟨by show 1 ≤ sizeLine; decide, fun t ht => ?_⟩))))))))
    have S1 := same_new (o := .tup [.str "plain"]) ht
    refine q_eqD (d := .tuple [.str w, d]) (e := .tuple [.str "plain"]) (.tup (SqT.of (S1 _ _ ha)) (.cons (.str w) (.cons (hv _) .nil))) (.tup (SqT.of upd_same) (.cons (.str _) .nil)) (shapedK hwo hd) shapedP ?_
    refine ⟨false, by simp [PyData.eqv, PyData.eqvAll], q_F ?_⟩
    generalize upd H t (.tup [.str "plain"]) = H1 at S1 ⊢
    have ha1 := S1 _ _ ha
    walk_at "r1"
    walk_at "r1"
    refine q_ifS (q_or (q_test (q_op (q_cb (q_cons (q_var rfl (q_nil (q_lenT ha1 (q_c (q_neS rfl ⟨false, rfl, q_F ?_⟩))))))))))
    refine q_test (q_op (q_op (q_var rfl (q_c (q_ixT ha1 rfl ?_)))))
    refine q_op (q_c (q_c ?_))
    refine Or.inr ⟨A.t_KINDS_WITH_NUMBER, A.t_KINDS_WITH_NAME, _, _, rfl, rfl, TX.t_KINDS_WITH_NUMBER H1, TX.t_KINDS_WITH_NAME H1, (fun z => nomatch z), by show 4 ≤ sizeLine; decide, (fun z => nomatch z), fun _ p hp => ?_⟩
    have S2 := same_new (o := .tup ([V.str "answer", .str "heal"] ++ [.str "jump", .str "swap"])) hp
    refine Or.inl ⟨p, _, rfl, .inr (SqT.of upd_same), rfl, rfl, false, ?_, q_F ?_⟩
    · rcases hw with rfl | rfl | rfl | rfl <;> decide +kernel
    have ha2 := S2 _ _ ha1
    refine q_next ?_
    refine q_ifS (q_test (q_op (q_op (q_var rfl (q_c (q_ixT ha2 rfl (q_c (Or.inl ⟨A.t_KINDS_WITH_NUMBER, _, rfl, .inr (TX.t_KINDS_WITH_NUMBER _), rfl, rfl, decide (w = "answer" ∨ w = "heal"), ?_, ?_⟩))))))))
    · rcases hw with rfl | rfl | rfl | rfl <;> decide +kernel
    refine q_dec (fun e => ?_) (fun e => ?_)
    · obtain ⟨n, rfl, h0, h1⟩ := hn e
      refine q_drop (q_call (q_cons (q_op (q_var rfl (q_c (q_ixT ha2 rfl (q_nil (s1 ⟨n, rfl, fun _ => ?_, fun z => absurd ⟨h0, by omega⟩ z⟩))))))))
      exact k _ (S1.trans S2)
    · obtain ⟨z, rfl, hzz⟩ := hz e
      refine q_drop (q_call (q_cons (q_op (q_var rfl (q_c (q_ixT ha2 rfl (q_nil (s1 ⟨z, rfl, hzz, fun H3 S3 => ?_⟩))))))))
      exact k _ ((S1.trans S2).trans S3)
  cases hk with
  | @plain a h =>
    unfold t_check_kind
    refine q_seq (q_ifS (q_test (q_op (q_var rfl (q_tup (q_cons (q_c (q_nil ⟨by show 1 ≤ sizeLine; decide, fun t ht => ?_⟩))))))))
    have S1 := same_new (o := .tup [.str "plain"]) ht
    refine q_eqD (d := .tuple [.str "plain"]) (e := .tuple [.str "plain"]) (.tup (SqT.of (S1 _ _ h)) (.cons (.str _) .nil)) (.tup (SqT.of upd_same) (.cons (.str _) .nil)) shapedP shapedP ?_
    refine ⟨true, by decide +kernel, q_T ?_⟩
    exact k _ S1
  | @num a w n hw h0 h1 h => exact two a w _ (.int n) rfl h (hw.elim .inl fun z => .inr (.inl z)) (fun _ => .int n) (.inl ⟨n, rfl⟩) (fun _ => ⟨n, rfl, h0, h1⟩) (fun z => (z hw).elim)
  | @nam a w z hw hz h => exact two a w _ (.str z) rfl h (hw.elim (fun z => .inr (.inr (.inl z))) fun z => .inr (.inr (.inr z))) (fun _ => .str z) (.inr ⟨z, rfl, NameS.ok hz⟩) (fun e => by rcases hw with rfl | rfl <;> rcases e with e | e <;> exact absurd e (by decide)) (fun _ => ⟨z, rfl, hz⟩)

def sp_with_step (_ : PySem.W.Frag) (_ : Ad) : Sp := Sp3 fun x y z H Q _ => ∃ (p : Addr) (kvs : List (Key × V)) (nm : Str), x = .ref p ∧ y = .str nm ∧ NameS nm ∧ KindV H z ∧ H p = some (.dK kvs) ∧ kvs.length < 12 ∧ ∀ np kvs' H', Same H H' → H np = none → H' np = some (.dK kvs') → kvs'.length ≤ kvs.length + 1 → kvs' = putK kvs (Sum.inr nm : Key) z → Q (.ref np) H'
def t_with_step (K : PySem.W.Frag) (A : Ad) : TS :=
  (tSeq (tDrop (tCall (sp_check_name K A) [] E0 (tCons (tVar 1) tNil)))
  (tSeq (tDrop (tCall (sp_check_kind K A) [] E0 (tCons (tVar 2) tNil)))
  (tRet (tCall (sp_at_most K A) [] E0 (tCons (tStarKV (tVar 0) (tVar 1) (tVar 2)) (tCons (tC (.int 12)) tNil))))))
theorem pure_with_step {K : PySem.W.Frag} {A : Ad} {vs : List V} {H : Hp} {Q : VK} {E : XK} (h : sp_with_step K A vs H Q E) : t_with_step K A { nx := fun _ H' => Q .non H', rt := Q } (start ["steps", "name", "kind"] vs) H := by
  obtain ⟨_, _, z, rfl, p, kvs, nm, rfl, rfl, hn, hk, hp, hl, k⟩ := h
  unfold t_with_step
  walk_at "rd"
  refine s1 ⟨nm, rfl, hn, fun H S0 => ?_⟩
  replace hk := KindV.mono (.same S0) hk
  replace hp := S0 _ _ hp
  replace k : ∀ np kvs' H', Same H H' → H np = none → H' np = some (.dK kvs') → kvs'.length ≤ kvs.length + 1 → kvs' = putK kvs (Sum.inr nm : Key) z → Q (.ref np) H' := fun np kvs' H' s n => k np kvs' H' (S0.trans s) (Same.none S0 n)
  walk_at "rd"
  refine s1 ⟨hk, fun H1 S1 => ?_⟩
  walk_at "rd"
  refine fun np hnp => ?_
  have npp : p ≠ np := fun z => by rw [← z, S1 _ _ hp] at hnp; cases hnp
  have S2 := same_new (o := .dK []) hnp
  refine q_var rfl ⟨kvs, ⟨p, rfl, .inl (S2 _ _ (S1 _ _ hp)), npp⟩, upd_same, Nat.lt_trans hl (by decide), fun q hq => ?_⟩
  have hqp : np ≠ q := fun z => by rw [← z, upd_same] at hq; cases hq
  refine q_var rfl (q_var rfl ⟨Sum.inr nm, rfl, by rw [upd_ne hqp]; exact upd_same, upd_same, hqp, ?_⟩)
  have hle : (putK kvs (Sum.inr nm : Key) z).length ≤ kvs.length + 1 := length_putK _ _ _
  walk_at "rd"
  refine s2 ⟨np, _, 12, rfl, rfl, upd_same, by omega, ?_⟩
  refine k np _ _ (fun a o e => ?_) (by cases q : H np with | none => rfl | some o => rw [S1 _ _ q] at hnp; cases hnp) upd_same hle rfl
  have e1 := S1 _ _ e
  have a1 : a ≠ np := fun z => by rw [z, hnp] at e1; cases e1
  have a2 : a ≠ q := fun z => by
    rw [upd_ne (by rw [← z]; exact a1), upd_ne (by rw [← z]; exact a1), ← z, e1] at hq
    cases hq
  rw [upd_ne a1, upd_ne a2, upd_ne a2, upd_ne a1, upd_ne a1]
  exact e1
def sp_Book___setitem__ (_ : PySem.W.Frag) (A : Ad) : Sp := Sp3 fun x y z H Q _ => ∃ (b dx sp : Addr) (fs : List (Str × V)) (kvs : List (Key × V)) (nm : Str), x = .ref b ∧ y = .str nm ∧ NameS nm ∧ KindV H z ∧ H b = some (.ins A.c_Book dx fs) ∧ fs.lookup ("_steps" : Str) = some (V.ref sp) ∧ fs.length < 1000 ∧ H sp = some (.dK kvs) ∧ kvs.length < 12 ∧
  ∀ np kvs' H', H np = none → Ex b H H' → H' b = some (.ins A.c_Book dx (putF "_steps" (.ref np) fs)) → H' np = some (.dK kvs') → kvs'.length ≤ kvs.length + 1 → kvs' = putK kvs (Sum.inr nm : Key) z → Q .non H'
def t_Book___setitem__ (K : PySem.W.Frag) (A : Ad) : TS :=
  (sFldC A.c_Book "_steps" (tVar 0) (tCall (sp_with_step K A) [] E0 (tCons (tFldC A.c_Book "_steps" (tVar 0)) (tCons (tVar 1) (tCons (tVar 2) tNil)))))
theorem pure_Book___setitem__ {K : PySem.W.Frag} {A : Ad} {vs : List V} {H : Hp} {Q : VK} {E : XK} (h : sp_Book___setitem__ K A vs H Q E) : t_Book___setitem__ K A { nx := fun _ H' => Q .non H', rt := Q } (start ["self", "name", "kind"] vs) H := by
  obtain ⟨_, _, z, rfl, b, dx, sp, fs, kvs, nm, rfl, rfl, hn, hk, hb, hf, hfl, hp, hl, k⟩ := h
  unfold t_Book___setitem__
  refine q_sfldC (q_call (q_cons (q_fldC (q_var rfl ⟨b, dx, fs, .ref sp, rfl, hb, hf, ?_⟩))))
  walk_at "rd"
  refine s3 ⟨sp, kvs, nm, rfl, rfl, hn, hk, hp, hl, fun np kvs' H' S' hnp h' hl' hk' => ?_⟩
  refine q_var rfl ⟨b, dx, fs, rfl, S' _ _ hb, hfl, ?_⟩
  have nb : np ≠ b := fun z => by rw [z, hb] at hnp; cases hnp
  exact k np kvs' _ hnp ((Ex.same S').trans Ex.upd) upd_same (by rw [upd_ne nb]; exact h') hl' hk'
def sp_Book_add_cell (_ : PySem.W.Frag) (A : Ad) : Sp := Sp3 fun x y z H Q _ => ∃ (b dx zp : Addr) (fs : List (Str × V)) (cs : List Cell) (nm : Str) (sz : Int), x = .ref b ∧ y = .str nm ∧ NameS nm ∧ z = .int sz ∧ (sz = 2 ∨ sz = 3) ∧ H b = some (.ins A.c_Book dx fs) ∧ fs.lookup ("_sizes" : Str) = some (V.ref zp) ∧ fs.length < 1000 ∧ H zp = some (.dK (cs.map cellK)) ∧ cs.length < 2 ∧ (∀ c ∈ cs, c.1 ≠ nm) ∧
  ∀ np H', H np = none → Ex b H H' → H' b = some (.ins A.c_Book dx (putF "_sizes" (.ref np) fs)) → H' np = some (.dK ((cs ++ [(nm, sz)]).map cellK)) → Q .non H'
theorem val_none {cs : List Cell} {nm : Str} (h : ∀ c ∈ cs, c.1 ≠ nm) : valV (cs.map cellK) (Sum.inr nm) = none := by
  induction cs with
  | nil => rfl
  | cons c r ih =>
    rw [List.map_cons, valV_neg (fun z => h c (List.mem_cons_self) (Sum.inr.inj z))]
    exact ih fun c hc => h c (List.mem_cons_of_mem _ hc)
def t_Book_add_cell (K : PySem.W.Frag) (A : Ad) : TS :=
  (tSeq (tDrop (tCall (sp_check_name K A) [] E0 (tCons (tVar 1) tNil)))
  (tSeq (tIfS (tTest (tOp (oNotInX K) (tVar 2) (tC (.ref A.t_CELL_SIZES))))
  tNever
  tNext)
  (tSeq (tIfS (tTest (tOp (oInX K) (tVar 1) (tFldC A.c_Book "_sizes" (tVar 0))))
  tNever
  tNext)
  (sFldC A.c_Book "_sizes" (tVar 0) (tCall (sp_at_most K A) [] E0 (tCons (tStarKV (tFldC A.c_Book "_sizes" (tVar 0)) (tVar 1) (tVar 2)) (tCons (tC (.int 2)) tNil)))))))
theorem pure_Book_add_cell {K : PySem.W.Frag} {A : Ad} (TX : Caught K A) {vs : List V} {H : Hp} {Q : VK} {E : XK} (h : sp_Book_add_cell K A vs H Q E) : t_Book_add_cell K A { nx := fun _ H' => Q .non H', rt := Q } (start ["self", "name", "size"] vs) H := by
  obtain ⟨_, _, _, rfl, b, dx, zp, fs, cs, nm, sz, rfl, rfl, hn, rfl, hsz, hb, hf, hfl, hz, hl, hd, k⟩ := h
  have hv := val_none hd
  unfold t_Book_add_cell
  walk_at "rd"
  refine s1 ⟨nm, rfl, hn, fun H S0 => ?_⟩
  replace hb := S0 _ _ hb
  replace hz := S0 _ _ hz
  replace k : ∀ np H', H np = none → Ex b H H' → H' b = some (.ins A.c_Book dx (putF "_sizes" (.ref np) fs)) → H' np = some (.dK ((cs ++ [(nm, sz)]).map cellK)) → Q .non H' := fun np H' n e => k np H' (Same.none S0 n) ((Ex.same S0).trans e)
  walk_at "rd"
  refine Or.inl (Or.inl ⟨A.t_CELL_SIZES, _, rfl, .inr (TX.t_CELL_SIZES _), rfl, rfl, false, ?_, q_F ?_⟩)
  · rcases hsz with rfl | rfl <;> rfl
  walk_at "rd"
  refine q_fldC (q_var rfl ⟨b, dx, fs, .ref zp, rfl, hb, hf, ?_⟩)
  refine q_inK (k := Sum.inr nm) hz ⟨false, by rw [hv]; rfl, q_F ?_⟩
  refine q_next ?_
  dsimp only
  refine q_sfldC (q_call (q_cons ?_))
  refine fun np hnp => ?_
  have npp : zp ≠ np := fun z => by rw [← z, hz] at hnp; cases hnp
  have nb : b ≠ np := fun z => by rw [← z, hb] at hnp; cases hnp
  have S2 := same_new (o := .dK []) hnp
  refine q_fldC (q_var rfl ⟨b, dx, fs, .ref zp, rfl, S2 _ _ hb, hf, ?_⟩)
  refine ⟨cs.map cellK, ⟨zp, rfl, .inl (S2 _ _ hz), npp⟩, upd_same, by rw [List.length_map, sizeLine_eq]; omega, fun q hq => ?_⟩
  have hqp : np ≠ q := fun z => by rw [← z, upd_same] at hq; cases hq
  refine q_var rfl (q_var rfl ⟨Sum.inr nm, rfl, by rw [upd_ne hqp]; exact upd_same, upd_same, hqp, ?_⟩)
  rw [putK_new _ hv]
  have keep : ∀ a o, H a = some o → upd (upd (upd (upd (upd H np (.dK [])) np (.dK (cs.map cellK))) q (.dK [])) q (.dK [(Sum.inr nm, .int sz)])) np (.dK (cs.map cellK ++ [(Sum.inr nm, .int sz)])) a = some o := by
    intro a o e
    have a1 : a ≠ np := fun z => by rw [z, hnp] at e; cases e
    have a2 : a ≠ q := fun z => by
      rw [upd_ne (by rw [← z]; exact a1), upd_ne (by rw [← z]; exact a1), ← z, e] at hq
      cases hq
    rw [upd_ne a1, upd_ne a2, upd_ne a2, upd_ne a1, upd_ne a1]
    exact e
  walk_at "rd"
  refine s2 ⟨np, _, 2, rfl, rfl, upd_same, by rw [List.length_append, List.length_map]; show ((cs.length + 1 : Nat) : Int) ≤ 2; omega, ?_⟩
  refine q_var rfl ⟨b, dx, fs, rfl, keep _ _ hb, hfl, ?_⟩
  refine k np _ hnp ((Ex.same keep).trans Ex.upd) upd_same ?_
  rw [upd_ne (Ne.symm nb), upd_same, List.map_append]
  rfl
def sp_Book___init__ (_ : PySem.W.Frag) (A : Ad) : Sp := Sp1 fun x H Q _ => ∃ b dx, x = .ref b ∧ H b = some (.ins A.c_Book dx []) ∧ ∀ sp zp H', H sp = none → H zp = none → Ex b H H' → H' b = some (.ins A.c_Book dx [("_steps", .ref sp), ("_sizes", .ref zp)]) → H' sp = some (.dK []) → H' zp = some (.dK []) → Q .non H'
def t_Book___init__ (K : PySem.W.Frag) (A : Ad) : TS :=
  (tSeq (sFldC A.c_Book "_steps" (tVar 0) tDNewK)
  (sFldC A.c_Book "_sizes" (tVar 0) tDNewK))
theorem pure_Book___init__ {K : PySem.W.Frag} {A : Ad} {vs : List V} {H : Hp} {Q : VK} {E : XK} (h : sp_Book___init__ K A vs H Q E) : t_Book___init__ K A { nx := fun _ H' => Q .non H', rt := Q } (start ["self"] vs) H := by
  obtain ⟨_, rfl, b, dx, rfl, hb, k⟩ := h
  unfold t_Book___init__
  refine q_seq (q_sfldC (q_dnew fun sp hsp => ?_))
  have nb : sp ≠ b := fun z => by rw [z, hb] at hsp; cases hsp
  refine q_var rfl ⟨b, dx, [], rfl, by rw [upd_ne (Ne.symm nb)]; exact hb, by decide, ?_⟩
  refine q_sfldC (q_dnew fun zp hzp => ?_)
  have nz : zp ≠ b := fun z => by rw [z, upd_same] at hzp; cases hzp
  have nsz : zp ≠ sp := fun z => by rw [z, upd_ne nb, upd_same] at hzp; cases hzp
  refine q_var rfl ⟨b, dx, putF "_steps" (.ref sp) [], rfl, by rw [upd_ne (Ne.symm nz), upd_same], by show 1 < 1000; decide, ?_⟩
  refine k sp zp _ hsp (by rw [upd_ne nz, upd_ne nsz] at hzp; exact hzp) (fun a o n e => ?_) ?_ ?_ ?_
  · have a1 : a ≠ sp := fun z => by rw [z, hsp] at e; cases e
    have a2 : a ≠ zp := fun z => by rw [← z, upd_ne n, upd_ne a1, e] at hzp; cases hzp
    rw [upd_ne n, upd_ne a2, upd_ne n, upd_ne a1]
    exact e
  · rw [upd_same]
    rfl
  · rw [upd_ne nb, upd_ne (Ne.symm nsz), upd_ne nb, upd_same]
  · rw [upd_ne nz, upd_same]

/-! ### what is drawn: kinds, fresh names, arguments -/
structure Dw (p : Addr) (H H' : Hp) : Prop where
  pool : Pool H' p
  ex : Ex p H H'
  hd : Hd p H H'
theorem Dw.of {p : Addr} {H H' : Hp} (d : Drawn H p H') : Dw p H H' := ⟨d.1, fun a o n e => d.2.to e n, d.2.hd⟩
theorem Dw.refl {p : Addr} {H : Hp} (P : Pool H p) : Dw p H H := ⟨P, fun _ _ _ e => e, .refl⟩
theorem Dw.trans {p : Addr} {H H1 H2 : Hp} (a : Dw p H H1) (b : Dw p H1 H2) : Dw p H H2 := ⟨b.pool, a.ex.trans b.ex, a.hd.trans b.hd⟩
theorem Hd.off {p q : Addr} {H : Hp} {o : HO} (n : q ≠ p) : Hd p H (upd H q o) := fun _ r h => ⟨r, by rw [upd_ne (Ne.symm n)]; exact h⟩
theorem Dw.new {p q : Addr} {H : Hp} {o : HO} (P : Pool H p) (h : H q = none) : Dw p H (upd H q o) := ⟨P.new h, Ex.same (same_new h), Hd.off fun e => by
  obtain ⟨l, cs, a, b, c, d, hp, _⟩ := P
  rw [e, hp] at h
  cases h⟩
/-- the pool's own list is not at q -/
def POff (H : Hp) (p q : Addr) : Prop := ∀ l r, H p = some (.lst (.ref l :: r)) → l ≠ q
theorem POff.dw {p q : Addr} {H H' : Hp} (P : Pool H p) (a : POff H p q) (d : Dw p H H') : POff H' p q := fun l r h => by
  obtain ⟨l0, cs, a0, b, c, d0, hp, _⟩ := P
  obtain ⟨r', h'⟩ := d.hd _ _ hp
  rw [h'] at h
  cases h
  exact a _ _ hp
theorem POff.new {p q : Addr} {H : Hp} (P : Pool H p) (h : H q = none) : POff H p q := fun l r e z => by
  obtain ⟨l0, cs, a0, b, c, d0, hp, hl, _⟩ := P
  rw [hp] at e
  cases e
  rw [z, h] at hl
  cases hl
theorem POff.upd {p q s : Addr} {H : Hp} {o : HO} (a : POff H p q) (n : s ≠ p) : POff (L2.upd H s o) p q := fun l r e => by
  rw [upd_ne (Ne.symm n)] at e
  exact a l r e
theorem Pool.at_off {p q : Addr} {H : Hp} {o : HO} (P : Pool H p) (a : POff H p q) (n : q ≠ p) : Pool (L2.upd H q o) p := by
  obtain ⟨l, cs, a0, b, c, d, hp, hl, ne, h⟩ := P
  have hq := a _ _ hp
  exact ⟨l, cs, a0, b, c, d, by rw [upd_ne (Ne.symm n)]; exact hp, by rw [upd_ne hq]; exact hl, ne, h⟩
theorem pool_at {H : Hp} {p : Addr} (P : Pool H p) : ∃ xs, H p = some (.lst xs) := by
  obtain ⟨l, cs, a, b, c, d, hp, _⟩ := P
  exact ⟨_, hp⟩
theorem Dw.tk {p : Addr} {H H' : Hp} (P : Pool H p) (d : Dw p H H') : Tk H H' := fun q xs h => by
  obtain ⟨ys, hp⟩ := pool_at P
  exact d.ex q _ (ne_of h hp (by intro z; cases z)) h
def sp__law_kind (_ : PySem.W.Frag) (_ : Ad) : Sp := Sp1 fun x H Q _ => ∃ p, x = .ref p ∧ Pool H p ∧ ∀ v H', Dw p H H' → KindV H' v → Q v H'
def t__law_kind (K : PySem.W.Frag) (A : Ad) : TS :=
  (tSeq (tAsg (tCall (sp__law_draw K A) [] E0 (tCons (tVar 0) (tCons (tC (.int 6)) tNil))) (gName 1))
  (tSeq (tIfS (tTest (tOp (oEq K) (tVar 1) (tC (.int 1))))
  (tRet (tTup (tCons (tC (.str "answer")) (tCons (tCall (sp__law_number K A) [] E0 (tCons (tVar 0) tNil)) tNil))))
  tNext)
  (tSeq (tIfS (tTest (tOp (oEq K) (tVar 1) (tC (.int 2))))
  (tRet (tTup (tCons (tC (.str "jump")) (tCons (tCall (sp__law_name K A) [] E0 (tCons (tVar 0) tNil)) tNil))))
  tNext)
  (tSeq (tIfS (tOr (tTest (tOp (oEq K) (tVar 1) (tC (.int 3)))) (tTest (tOp (oEq K) (tVar 1) (tC (.int 5)))))
  (tRet (tTup (tCons (tC (.str "heal")) (tCons (tCall (sp__law_number K A) [] E0 (tCons (tVar 0) tNil)) tNil))))
  tNext)
  (tSeq (tIfS (tTest (tOp (oEq K) (tVar 1) (tC (.int 4))))
  (tRet (tTup (tCons (tC (.str "swap")) (tCons (tCall (sp__law_name K A) [] E0 (tCons (tVar 0) tNil)) tNil))))
  tNext)
  (tRet (tTup (tCons (tC (.str "plain")) tNil))))))))
theorem pure__law_kind {K : PySem.W.Frag} {A : Ad} {vs : List V} {H : Hp} {Q : VK} {E : XK} (h : sp__law_kind K A vs H Q E) : t__law_kind K A { nx := fun _ H' => Q .non H', rt := Q } (start ["_law_pool_here", "_law_choice"] vs) H := by
  obtain ⟨_, rfl, p, rfl, P, k⟩ := h
  have num : ∀ (w : Str) (H1 : Hp) (c : Option V), Dw p H H1 → (w = "answer" ∨ w = "heal") → (tRet (tTup (tCons (tC (.str w)) (tCons (tCall (sp__law_number K A) [] E0 (tCons (tVar 0) tNil)) tNil)))) { nx := fun _ H' => Q .non H', rt := Q } [some (.ref p), c] H1 := by
    intro w H1 c D1 hw
    refine q_ret (q_tup (q_cons (q_c (q_cons (q_call (q_cons (q_var rfl (q_nil (s1 ⟨p, rfl, D1.pool, fun n H2 h0 h1 D2 => ?_⟩)))))))))
    refine q_nil ⟨by show 2 ≤ sizeLine; decide, fun t ht => k _ _ ((D1.trans (.of D2)).trans (.new D2.1 ht)) (.num hw h0 h1 upd_same)⟩
  have nam : ∀ (w : Str) (H1 : Hp) (c : Option V), Dw p H H1 → (w = "jump" ∨ w = "swap") → (tRet (tTup (tCons (tC (.str w)) (tCons (tCall (sp__law_name K A) [] E0 (tCons (tVar 0) tNil)) tNil)))) { nx := fun _ H' => Q .non H', rt := Q } [some (.ref p), c] H1 := by
    intro w H1 c D1 hw
    refine q_ret (q_tup (q_cons (q_c (q_cons (q_call (q_cons (q_var rfl (q_nil (s1 ⟨p, rfl, D1.pool, fun l H2 hl D2 => ?_⟩)))))))))
    refine q_nil ⟨by show 2 ≤ sizeLine; decide, fun t ht => k _ _ ((D1.trans (.of D2)).trans (.new D2.1 ht)) (.nam (z := St8 l) hw hl upd_same)⟩
  unfold t__law_kind
  walk_at "rd"
  refine s2 ⟨p, 6, rfl, rfl, by decide, by decide, P, fun c H1 c0 c1 D1 => ?_⟩
  have d1 := Dw.of D1
  walk_at "r1"
  walk_at "r1"
  refine q_ifA (an_test (va_eqS (va_var rfl) va_c rfl)) (fun _ => num _ _ _ d1 (.inl rfl)) (fun _ => ?_)
  walk_at "r1"
  walk_at "r1"
  refine q_ifA (an_test (va_eqS (va_var rfl) va_c rfl)) (fun _ => nam _ _ _ d1 (.inl rfl)) (fun _ => ?_)
  walk_at "r1"
  walk_at "r1"
  refine q_ifA (an_or (an_test (va_eqS (va_var rfl) va_c rfl)) fun _ => an_test (va_eqS (va_var rfl) va_c rfl)) (fun _ => num _ _ _ d1 (.inr rfl)) (fun _ => ?_)
  walk_at "r1"
  walk_at "r1"
  refine q_ifA (an_test (va_eqS (va_var rfl) va_c rfl)) (fun _ => nam _ _ _ d1 (.inr rfl)) (fun _ => ?_)
  walk_at "rd"
  refine q_tup (q_cons (q_c (q_nil ⟨by show 1 ≤ sizeLine; decide, fun t ht => k _ _ (d1.trans (.new D1.1 ht)) (.plain upd_same)⟩)))
/-! fresh names -/
theorem inV_str (z : Str) : ∀ us : List Str, inV (.str z) (us.map V.str) = decide (z ∈ us)
  | [] => by simp [inV]
  | u :: r => by
    have ih := inV_str z r
    unfold inV at ih ⊢
    rw [List.map_cons, List.any_cons, ih]
    by_cases h : z = u
    · subst h
      simp [eqV]
    · have h' : (u == z) = false := by simpa using fun e => h e.symm
      have e1 : eqV (.str u) (.str z) = false := h'
      rw [e1, Bool.false_or]
      simp [h]
theorem va_notInL {K : PySem.W.Frag} {σ : L2.St} {H : Hp} {ta tb : TE} {z : Str} {u : Addr} {us : List Str} (ha : Val ta σ H (.str z)) (hb : Val tb σ H (.ref u)) (hu : H u = some (.lst (us.map V.str))) : Val (tOp (oNotIn K) ta tb) σ H (.bl (!decide (z ∈ us))) :=
  va_op ha hb fun Q q => Or.inl ⟨u, _, rfl, .inl (SqL.of hu), rfl, List.all_eq_true.mpr (fun x hx => by obtain ⟨e, _, rfl⟩ := List.mem_map.mp hx; rfl), by rw [inV_str]; exact q⟩
/-- over a text that is made on the spot -/
theorem q_forSE {K : PySem.W.Frag} {σ : L2.St} {H : Hp} {D : Ends} {g : TG} {tb : TS} {te : TE} {z : Str} (e : Val te σ H (.str z)) (Pv : Nat → L2.St → Hp → Prop) (h0 : Pv 0 σ H)
    (hs : ∀ i c σ H, z.cps.toList[i]? = some c → Pv i σ H → g (.str ⟨#[c]⟩) σ H fun σ2 H2 => tb { D with nx := Pv (i + 1), ct := Pv (i + 1), bk := D.nx } σ2 H2) (hd : ∀ σ H, Pv z.length σ H → D.nx σ H) : tFor (iAny K te) g tb D σ H := by
  refine Or.inr (Or.inr (e _ ⟨z, rfl, ?_⟩))
  refine ⟨fun i m σ H => m = z.length - i ∧ i ≤ z.length ∧ Pv i σ H, ⟨z.length, by simp, Nat.zero_le _, h0⟩, ?_⟩
  rintro i m σ H ⟨rfl, hi, p⟩
  by_cases hlt : i < z.length
  · refine .inr ⟨hlt, Pv (i + 1), fun σ' H' p' => ⟨z.length - (i + 1), by omega, rfl, hlt, p'⟩, fun x H' y => ?_⟩
    obtain ⟨e, c, hc, rfl⟩ := y
    subst e
    exact hs i c σ _ (by rw [Array.getElem?_toList]; exact hc) p
  · have e : i = z.length := by omega
    subst e
    exact .inl ⟨Nat.le_refl _, hd σ H p⟩
theorem va_letters8 {K : PySem.W.Frag} {A : Ad} {σ : L2.St} {H : Hp} : Val (tOp (oAdd K) (tCall (sp__law_letters K A) [] E0 tNil) (tC (.str "0123456789"))) σ H (.str (St8 (lets ++ digs))) := fun Q q => by
  refine q_op (q_call (q_nil (s0 (q_c (q_addS (by decide +kernel) ?_)))))
  rw [digs_is, st8_app]
  exact q
theorem cut11 (l : List Nat) : cutS (St8 l) none (some 11) = St8 (l.take 11) := by
  have h : HT.sIx (St8 l).length (St8 l).length (some 11) = min 11 l.length := HT.sIx_nat (St8 l).length (St8 l).length 11
  unfold cutS
  rw [h]
  show (⟨((l.drop 0).take (min 11 l.length - 0)).toArray⟩ : Str) = ⟨(l.take 11).toArray⟩
  rw [List.drop_zero, Nat.sub_zero, ← List.take_take, List.take_length]
def sp__law_fresh (_ : PySem.W.Frag) (_ : Ad) : Sp := Sp2 fun x y H Q _ => ∃ (p u : Addr) (us : List Str), x = .ref p ∧ y = .ref u ∧ Pool H p ∧ H u = some (.lst (us.map V.str)) ∧ us.length ≤ 20 ∧ u ≠ p ∧ ∀ z H', NameS z → z ∉ us → Drawn H p H' → Q (.str z) H'

/-- the candidate with the sign c -/
theorem cand_name {l : List Nat} {c : Nat} (h : NameL l) (hc : c ∈ lets ++ digs) : NameL (l.take 11 ++ [c]) := by
  obtain ⟨⟨d, r, e, hd⟩, ha, hl⟩ := h
  refine ⟨⟨d, r.take 10 ++ [c], by rw [e]; rfl, hd⟩, fun y hy => ?_, ?_⟩
  · rcases List.mem_append.mp hy with hy | hy
    · exact ha y (List.mem_of_mem_take hy)
    · rw [List.mem_singleton.mp hy]; exact hc
  · rw [List.length_append, List.length_take]
    show _ + 1 ≤ 12
    omega
theorem cand_inj {l : List Nat} {a b : Nat} (h : St8 (l.take 11 ++ [a]) = St8 (l.take 11 ++ [b])) : a = b := by
  have := st8_inj h
  have := List.append_cancel_left this
  injection this
theorem pig : ∀ {l us : List Str}, l.Nodup → (∀ x ∈ l, x ∈ us) → l.length ≤ us.length
  | [], _, _, _ => Nat.zero_le _
  | x :: l, us, nd, h => by
    have nd' := List.nodup_cons.mp nd
    have hx := h x List.mem_cons_self
    have := pig (l := l) (us := us.erase x) nd'.2 fun y hy => (List.mem_erase_of_ne (fun z : y = x => nd'.1 (by rw [← z]; exact hy))).mpr (h y (List.mem_cons_of_mem _ hy))
    have hl := List.length_erase_of_mem hx
    have hp := List.length_pos_of_mem hx
    rw [List.length_cons]
    omega
def t__law_fresh (K : PySem.W.Frag) (A : Ad) : TS :=
  (tSeq (tAsg (tCall (sp__law_name K A) [] E0 (tCons (tVar 0) tNil)) (gName 2))
  (tSeq (tIfS (tTest (tOp (oNotIn K) (tVar 2) (tVar 1)))
  (tRet (tVar 2))
  tNext)
  (tSeq (tFor (iAny K (tOp (oAdd K) (tCall (sp__law_letters K A) [] E0 tNil) (tC (.str "0123456789")))) (gName 3)
  (tIfS (tTest (tOp (oNotIn K) (tOp (oAdd K) (tSl (oSl K) (tVar 2) tNoPart (tPart (tC (.int 11)))) (tVar 3)) (tVar 1)))
  (tRet (tOp (oAdd K) (tSl (oSl K) (tVar 2) tNoPart (tPart (tC (.int 11)))) (tVar 3)))
  tNext))
  (tRet (tVar 2)))))
theorem pure__law_fresh {K : PySem.W.Frag} {A : Ad} {vs : List V} {H : Hp} {Q : VK} {E : XK} (h : sp__law_fresh K A vs H Q E) : t__law_fresh K A { nx := fun _ H' => Q .non H', rt := Q } (start ["_law_pool_here", "_law_used", "_law_name_here", "_law_sign"] vs) H := by
  obtain ⟨_, _, rfl, p, u, us, rfl, rfl, P, hu, h2, hne, k⟩ := h
  unfold t__law_fresh
  walk_at "rd"
  refine s1 ⟨p, rfl, P, fun l H1 hl D1 => ?_⟩
  have hu1 := D1.2.to hu hne
  have hlen : (St8 l).length ≤ 12 := hl.len
  walk_at "r1"
  walk_at "r1"
  refine q_ifA (an_test (va_notInL (va_var rfl) (va_var rfl) hu1)) (fun e => ?_) (fun e => ?_)
  · have e' : St8 l ∉ us := fun z => by rw [decide_eq_true z] at e; cases e
    refine q_ret (q_var rfl ?_)
    exact k _ _ hl e' D1
  · walk_at "r1"
    walk_at "r1"
    refine q_forSE va_letters8 (fun i σ H' => H' = H1 ∧ (∃ v : Option V, σ = [some (.ref p), some (.ref u), some (.str (St8 l)), v]) ∧ ∀ m c, m < i → (lets ++ digs)[m]? = some c → St8 (l.take 11 ++ [c]) ∈ us) ⟨rfl, ⟨none, rfl⟩, fun m c h => absurd h (Nat.not_lt_zero _)⟩ ?_ ?_
    · rintro i c σ H' hc ⟨rfl, ⟨v, rfl⟩, hall⟩
      have hcm : c ∈ lets ++ digs := List.mem_of_getElem? hc
      have vc : ∀ (s : L2.St), s[2]? = some (some (.str (St8 l))) → s[3]? = some (some (.str ⟨#[c]⟩)) → Val (tOp (oAdd K) (tSl (oSl K) (tVar 2) tNoPart (tPart (tC (.int 11)))) (tVar 3)) s H' (.str (St8 (l.take 11 ++ [c]))) := by
        intro s e1 e2
        have w := va_addS (K := K) (H := H') (va_slS (K := K) (va_var e1) po_no (po_at (va_c (v := .int 11))) (sz1000 (by omega))) (va_var e2) (by rw [cut11, st8_len, List.length_take]; show _ + 1 ≤ sizeLine; rw [sizeLine_eq]; omega)
        rw [cut11] at w
        rw [← st8_app]
        exact w
      refine q_name (q_ifA (an_test (va_notInL (vc _ rfl rfl) (va_var rfl) hu1)) (fun e => ?_) (fun e => ?_))
      · have e' : St8 (l.take 11 ++ [c]) ∉ us := fun z => by rw [decide_eq_true z] at e; cases e
        exact q_ret (q_val (vc _ rfl rfl) (k _ _ (cand_name hl hcm) e' D1))
      · have e' : St8 (l.take 11 ++ [c]) ∈ us := by
          cases q : decide (St8 (l.take 11 ++ [c]) ∈ us) with
          | true => exact of_decide_eq_true q
          | false => rw [q] at e; cases e
        refine q_next ⟨rfl, ⟨_, rfl⟩, fun m c' hm hc' => ?_⟩
        rcases Nat.lt_or_ge m i with h | h
        · exact hall m c' h hc'
        · have : m = i := by omega
          subst this
          rw [show (St8 (lets ++ digs)).cps.toList = lets ++ digs from rfl] at hc
          rw [hc] at hc'
          cases hc'
          exact e'
    · rintro σ H' ⟨rfl, ⟨v, rfl⟩, hall⟩
      have nd : ((lets ++ digs).map fun c => St8 (l.take 11 ++ [c])).Nodup := List.pairwise_map.mpr ((show (lets ++ digs).Nodup by decide).imp fun {a b} ne e => ne (cand_inj e))
      have z := pig nd fun x hx => by
        obtain ⟨c, hc, rfl⟩ := List.mem_map.mp hx
        obtain ⟨m, hm, e⟩ := List.getElem_of_mem hc
        refine hall m c ?_ (by rw [List.getElem?_eq_getElem hm, e])
        exact hm
      rw [List.length_map] at z
      have : (lets ++ digs).length = 36 := rfl
      omega

/-! ### the lore: names, kinds, cells -/
structure Lore (H : Hp) (p lp nl kd pl : Addr) (names : List Str) (cs : List Cell) : Prop where
  h0 : H lp = some (.lst [.ref nl, .ref kd, .ref pl])
  h1 : H nl = some (.lst (names.map V.str))
  h2 : CellsL H pl cs
  n0 : lp ≠ p
  n1 : nl ≠ p
  n2 : pl ≠ p
  l1 : 1 ≤ names.length
  l3 : names.length ≤ 3
  l2 : cs.length ≤ 2
theorem Lore.mono {H H' : Hp} {p lp nl kd pl : Addr} {names : List Str} {cs : List Cell} (L : Lore H p lp nl kd pl names cs) (P : Pool H p) (d : Dw p H H') : Lore H' p lp nl kd pl names cs := by
  obtain ⟨xs, hx, ht⟩ := L.h2
  exact ⟨d.ex _ _ L.n0 L.h0, d.ex _ _ L.n1 L.h1, ⟨xs, d.ex _ _ L.n2 hx, ht.mono (d.tk P)⟩, L.n0, L.n1, L.n2, L.l1, L.l3, L.l2⟩
inductive ArgD (cs : List Cell) : PyData → Prop
  | non : ArgD cs .none
  | int (i : Int) : ArgD cs (.int i)
  | cell (w c : Str) (hw : w = "now" ∨ w = "late") (hc : ∃ (j : Nat) (z : Int), cs[j]? = some (c, z)) : ArgD cs (.tuple [.str w, .str c])
def sp__law_argument (_ : PySem.W.Frag) (_ : Ad) : Sp := Sp3 fun x y z H Q _ => ∃ (p lp nl kd pl : Addr) (names : List Str) (cs : List Cell), x = .ref p ∧ y = .ref lp ∧ z = .bl true ∧ Pool H p ∧ Lore H p lp nl kd pl names cs ∧ ∀ v a H', Dw p H H' → Tp H' v a → ArgD cs a → Q v H'
def t__law_argument (K : PySem.W.Frag) (A : Ad) : TS :=
  (tSeq (tAsg (tCall (sp__law_draw K A) [] E0 (tCons (tVar 0) (tCons (tC (.int 4)) tNil))) (gName 3))
  (tSeq (tIfS (tOr (tTest (tOp (oEq K) (tVar 3) (tC (.int 0)))) (tAnd (tTest (tOp (oEq K) (tVar 3) (tC (.int 1)))) (tAnd (tTest (tOp oGt (tCB (cLen K) (tCons (tOp (oIx K) (tVar 1) (tC (.int 2))) tNil)) (tC (.int 0)))) (tTest (tOp (oEq K) (tCall (sp__law_draw K A) [] E0 (tCons (tVar 0) (tCons (tC (.int 2)) tNil))) (tC (.int 0)))))))
  (tRet (tC .non))
  tNext)
  (tSeq (tIfS (tOr (tTest (tOp (oEq K) (tVar 3) (tC (.int 1)))) (tTest (tOp (oEq K) (tCB (cLen K) (tCons (tOp (oIx K) (tVar 1) (tC (.int 2))) tNil)) (tC (.int 0)))))
  (tRet (tCall (sp__law_number K A) [] E0 (tCons (tVar 0) tNil)))
  tNext)
  (tSeq (tAsg (tOp (oIx K) (tOp (oIx K) (tOp (oIx K) (tVar 1) (tC (.int 2))) (tCall (sp__law_draw K A) [] E0 (tCons (tVar 0) (tCons (tCB (cLen K) (tCons (tOp (oIx K) (tVar 1) (tC (.int 2))) tNil)) tNil)))) (tC (.int 0))) (gName 4))
  (tSeq (tIfS (tAnd (tB (tVar 2)) (tTest (tOp oGt (tCall (sp__law_draw K A) [] E0 (tCons (tVar 0) (tCons (tC (.int 3)) tNil))) (tC (.int 0)))))
  (tRet (tTup (tCons (tC (.str "late")) (tCons (tVar 4) tNil))))
  tNext)
  (tRet (tTup (tCons (tC (.str "now")) (tCons (tVar 4) tNil)))))))))
theorem pure__law_argument {K : PySem.W.Frag} {A : Ad} {vs : List V} {H : Hp} {Q : VK} {E : XK} (h : sp__law_argument K A vs H Q E) : t__law_argument K A { nx := fun _ H' => Q .non H', rt := Q } (start ["_law_pool_here", "_law_lore_here", "_law_late", "_law_choice", "_law_cell"] vs) H := by
  obtain ⟨_, _, _, rfl, p, lp, nl, kd, pl, names, cs, rfl, rfl, rfl, P, L, k⟩ := h
  unfold t__law_argument
  walk_at "rd"
  refine s2 ⟨p, 4, rfl, rfl, by decide, by decide, P, fun c H1 c0 c1 D1 => ?_⟩
  have rest : ∀ H2, Dw p H H2 → (tSeq (tIfS (tOr (tTest (tOp (oEq K) (tVar 3) (tC (.int 1)))) (tTest (tOp (oEq K) (tCB (cLen K) (tCons (tOp (oIx K) (tVar 1) (tC (.int 2))) tNil)) (tC (.int 0)))))
  (tRet (tCall (sp__law_number K A) [] E0 (tCons (tVar 0) tNil)))
  tNext)
  (tSeq (tAsg (tOp (oIx K) (tOp (oIx K) (tOp (oIx K) (tVar 1) (tC (.int 2))) (tCall (sp__law_draw K A) [] E0 (tCons (tVar 0) (tCons (tCB (cLen K) (tCons (tOp (oIx K) (tVar 1) (tC (.int 2))) tNil)) tNil)))) (tC (.int 0))) (gName 4))
  (tSeq (tIfS (tAnd (tB (tVar 2)) (tTest (tOp oGt (tCall (sp__law_draw K A) [] E0 (tCons (tVar 0) (tCons (tC (.int 3)) tNil))) (tC (.int 0)))))
  (tRet (tTup (tCons (tC (.str "late")) (tCons (tVar 4) tNil))))
  tNext)
  (tRet (tTup (tCons (tC (.str "now")) (tCons (tVar 4) tNil))))))) { nx := fun _ H' => Q .non H', rt := Q } [some (.ref p), some (.ref lp), some (.bl true), some (.int c), none] H2 := by
    intro H2 d2
    have L2 := L.mono P d2
    obtain ⟨xs, hx, ht⟩ := L2.h2
    have hl : xs.length = cs.length := by rw [ht.len, List.length_map]
    refine q_seq ?_
    refine q_ifA (an_or (an_test (va_eqS (va_var rfl) va_c rfl)) fun _ => an_test (va_eqS (va_lenL (ar := tNil) (va_ixL (va_var rfl) va_c L2.h0 rfl) hx) va_c rfl)) (fun e => ?_) (fun e => ?_)
    · walk_at "rd"
      exact s1 ⟨p, rfl, d2.pool, fun n H3 h0 h1 D3 => k _ (.int n) _ (d2.trans (.of D3)) (.int n) (.int n)⟩
    · have hpos : 0 < xs.length := by
        rcases Nat.eq_zero_or_pos xs.length with h | h
        · rw [h, Bool.or_eq_false_iff] at e
          exact absurd e.2 (by decide)
        · exact h
      walk_at "rd"
      refine q_ixL L2.h0 rfl ?_
      walk_at "rd"
      refine q_ixL L2.h0 rfl ?_
      walk_at "rd"
      refine q_lenL hx ?_
      walk_at "rd"
      refine s2 ⟨p, xs.length, rfl, rfl, by omega, by have := L2.l2; omega, d2.pool, fun r H3 h0 h1 D3 => ?_⟩
      have d3 := d2.trans (.of D3)
      have hr : r.toNat < cs.length := by omega
      obtain ⟨q, hq, hqt⟩ := cell_at ht hr
      have hx3 := D3.2.to hx L2.n2
      refine q_ixL hx3 (at_of h0 hq) ?_
      refine q_c (q_ixT (Dw.tk d2.pool (.of D3) _ _ hqt) rfl ?_)
      walk_at "rd"
      refine q_T ?_
      walk_at "rd"
      refine s2 ⟨p, 3, rfl, rfl, by decide, by decide, D3.1, fun r2 H4 h2 h3 D4 => ?_⟩
      have d4 := d3.trans (.of D4)
      walk_at "rd"
      refine q_dec (fun _ => ?_) (fun _ => ?_)
      · walk_at "rd"
        refine q_tup ?_
        walk_at "rd"
        refine ⟨by show 2 ≤ sizeLine; decide, fun t hnt => k _ _ _ (d4.trans (.new d4.pool hnt)) (.mk2 upd_same (.str _) (.str _)) (.cell "late" cs[r.toNat].1 (.inr rfl) ⟨r.toNat, cs[r.toNat].2, List.getElem?_eq_getElem hr⟩)⟩
      · walk_at "rd"
        refine q_tup ?_
        walk_at "rd"
        refine ⟨by show 2 ≤ sizeLine; decide, fun t hnt => k _ _ _ (d4.trans (.new d4.pool hnt)) (.mk2 upd_same (.str _) (.str _)) (.cell "now" cs[r.toNat].1 (.inl rfl) ⟨r.toNat, cs[r.toNat].2, List.getElem?_eq_getElem hr⟩)⟩
  have d1 := Dw.of D1
  have L1 := L.mono P d1
  obtain ⟨xs, hx, ht⟩ := L1.h2
  walk_at "r1"
  walk_at "r1"
  refine q_ifS (q_or (an_test (va_eqS (va_var rfl) va_c rfl) _ ?_))
  refine q_dec (fun _ => ?_) (fun _ => ?_)
  · refine q_T ?_
    walk_at "rd"
    exact k _ _ _ d1 .non .non
  · refine q_and (an_test (va_eqS (va_var rfl) va_c rfl) _ ?_)
    refine q_dec (fun _ => ?_) (fun _ => ?_)
    · refine q_and (an_test (va_cmp (va_lenL (ar := tNil) (va_ixL (va_var rfl) va_c L1.h0 rfl) hx) va_c) _ ?_)
      refine q_dec (fun _ => ?_) (fun _ => ?_)
      · walk_at "rd"
        refine s2 ⟨p, 2, rfl, rfl, by decide, by decide, D1.1, fun r H2 h0 h1 D2 => ?_⟩
        have d2 := d1.trans (.of D2)
        walk_at "rd"
        refine q_eqS rfl ⟨_, rfl, ?_⟩
        refine q_dec (fun _ => ?_) (fun _ => ?_)
        · walk_at "rd"
          exact k _ _ _ d2 .non .non
        · exact rest H2 d2
      · refine q_F ?_
        exact rest H1 d1
    · refine q_F ?_
      exact rest H1 d1

theorem perm2 {α : Type} {a b : α} {ys : List α} (h : ys.Perm [a, b]) : ys = [a, b] ∨ ys = [b, a] := by
  have hl := h.length_eq
  match ys, hl with
  | [x, y], _ =>
    have hx : x ∈ [a, b] := h.subset (List.mem_cons_self)
    simp only [List.mem_cons, List.not_mem_nil, or_false] at hx
    rcases hx with rfl | rfl
    · have := List.perm_singleton.mp (List.Perm.cons_inv h)
      left
      rw [this]
    · have h2 : [x, y].Perm [x, a] := h.trans (List.Perm.swap _ _ _)
      have := List.perm_singleton.mp (List.Perm.cons_inv h2)
      right
      rw [this]
theorem asc_small {cs : List Cell} (h : cs.length ≤ 1) : Asc cs := by
  intro ys hp hs
  match cs, h with
  | [], _ => exact List.perm_nil.mp hp
  | [a], _ => exact List.perm_singleton.mp hp
theorem asc_two {a b : Cell} (hne : a.1 ≠ b.1) (h : ¬ b.1.cps.toList < a.1.cps.toList) : Asc [a, b] := by
  intro ys hp hs
  rcases perm2 hp with e | e
  · exact e
  · exfalso
    rw [e] at hs
    have h1 : PySem.Spec.ltCps a.1.cps.toList b.1.cps.toList = false := by
      have : (!PySem.Spec.ltCps a.1.cps.toList b.1.cps.toList && true) = true := hs
      simpa using this
    rw [PyProof.Rows.ltCps_eq] at h1
    have h2 : ¬ a.1.cps.toList < b.1.cps.toList := of_decide_eq_false h1
    have : a.1.cps.toList = b.1.cps.toList := List.le_antisymm h h2
    apply hne
    rw [st8_of a.1, st8_of b.1, this]
theorem dis_of {cs : List Cell} (h : (cs.map (·.1)).Nodup) : Dis cs := by
  intro i c hc
  refine ⟨⟨c.2, hc⟩, fun m e hm he z => ?_⟩
  have hi : i < (cs.map (·.1)).length := by rw [List.length_map]; exact (List.getElem?_eq_some_iff.mp hc).1
  have hm' : m < (cs.map (·.1)).length := Nat.lt_trans hm hi
  have e1 : (cs.map (·.1))[m] = e.1 := by
    have : (cs.map (·.1))[m]? = some e.1 := by rw [List.getElem?_map, he]; rfl
    rw [List.getElem?_eq_getElem hm'] at this
    exact Option.some.inj this
  have e2 : (cs.map (·.1))[i] = c.1 := by
    have : (cs.map (·.1))[i]? = some c.1 := by rw [List.getElem?_map, hc]; rfl
    rw [List.getElem?_eq_getElem hi] at this
    exact Option.some.inj this
  have := (List.getElem_inj (h₀ := hm') (h₁ := hi) h).mp (by rw [e1, e2, z])
  omega
/-- good cells -/
structure Good (cs : List Cell) : Prop where
  nd : (cs.map (·.1)).Nodup
  nm : ∀ c ∈ cs, NameS c.1
  sz : ∀ c ∈ cs, c.2 = 2 ∨ c.2 = 3
def KindsK (H : Hp) (kd : Addr) (us : List Str) (n : Nat) : Prop := ∃ kvs, H kd = some (.dK kvs) ∧ kvs.length ≤ n ∧ ∀ nm ∈ us, NameS nm ∧ ∃ v, valV kvs (Sum.inr nm) = some v ∧ KindV H v
theorem KindsK.mono {H H' : Hp} {p kd : Addr} {us : List Str} {n : Nat} (k : KindsK H kd us n) (P : Pool H p) (d : Dw p H H') (hne : kd ≠ p) : KindsK H' kd us n := by
  obtain ⟨kvs, h, hl, ha⟩ := k
  refine ⟨kvs, d.ex _ _ hne h, hl, fun nm hnm => ?_⟩
  obtain ⟨h1, v, h2, h3⟩ := ha nm hnm
  exact ⟨h1, v, h2, h3.mono (d.tk P)⟩
theorem Tk.dk {H : Hp} {q : Addr} {o : HO} {kvs : List (Key × V)} (h : H q = some (.dK kvs)) : Tk H (upd H q o) := fun a ys e => by
  rw [upd_ne (ne_of e h (by intro z; cases z))]
  exact e
/-- the first loop's -/
structure Lp1 (H0 H' : Hp) (p nl kd : Addr) (i : Nat) (us : List Str) : Prop where
  pool : Pool H' p
  ex : Ex p H0 H'
  hd : Hd p H0 H'
  off : POff H' p nl
  hn : H' nl = some (.lst (us.map V.str))
  hk : KindsK H' kd us i
  ul : us.length = i
/-- the second loop's -/
structure Lp2 (H0 H' : Hp) (p pl : Addr) (i : Nat) (cs : List Cell) : Prop where
  pool : Pool H' p
  ex : Ex p H0 H'
  hd : Hd p H0 H'
  off : POff H' p pl
  hc : CellsL H' pl cs
  gd : Good cs
  cl : cs.length = i
def sp__law_lore (_ : PySem.W.Frag) (_ : Ad) : Sp := Sp3 fun x y z H Q _ => ∃ (p : Addr), x = .ref p ∧ y = .int 3 ∧ z = .int 2 ∧ Pool H p ∧
  ∀ (lp nl kd pl : Addr) (names : List Str) (cs : List Cell) (H' : Hp), Dw p H H' → Lore H' p lp nl kd pl names cs → KindsK H' kd names 3 → kd ≠ p → Good cs → Asc cs → Q (.ref lp) H'
def t__law_lore (K : PySem.W.Frag) (A : Ad) : TS :=
  (tSeq (tAsg (tLst tNil) (gName 3))
  (tSeq (tAsg tDNewK (gName 4))
  (tSeq (tFor (iRng1 (tCons (tOp (oAdd K) (tC (.int 1)) (tCall (sp__law_draw K A) [] E0 (tCons (tVar 0) (tCons (tVar 1) tNil)))) tNil)) (gName 5)
  (tSeq (tAsg (tCall (sp__law_fresh K A) [] E0 (tCons (tVar 0) (tCons (tVar 3) tNil))) (gName 7))
  (tSeq (tDrop (tBM K "list" rAppend (tVar 3) (tCons (tVar 7) tNil)))
  (tAsg (tCall (sp__law_kind K A) [] E0 (tCons (tVar 0) tNil)) (gSub (tVar 4) (tVar 7) rSetX)))))
  (tSeq (tAsg (tLst tNil) (gName 6))
  (tSeq (tFor (iRng1 (tCons (tCall (sp__law_draw K A) [] E0 (tCons (tVar 0) (tCons (tOp (oAdd K) (tVar 2) (tC (.int 1))) tNil))) tNil)) (gName 5)
  (tSeq (tAsg (tCall (sp__law_fresh K A) [] E0 (tCons (tVar 0) (tCons (tLc (iAny K (tVar 6)) (gName 8) tYes (tOp (oIx K) (tVar 8) (tC (.int 0))) [8]) tNil))) (gName 7))
  (tDrop (tBM K "list" rAppend (tVar 6) (tCons (tTup (tCons (tVar 7) (tCons (tOp (oAdd K) (tC (.int 2)) (tCall (sp__law_draw K A) [] E0 (tCons (tVar 0) (tCons (tC (.int 2)) tNil)))) tNil))) tNil)))))
  (tSeq (tIfS (tAnd (tTest (tOp (oEq K) (tCB (cLen K) (tCons (tVar 6) tNil)) (tC (.int 2)))) (tTest (tOp oLtS (tOp (oIx K) (tOp (oIx K) (tVar 6) (tC (.int 1))) (tC (.int 0))) (tOp (oIx K) (tOp (oIx K) (tVar 6) (tC (.int 0))) (tC (.int 0))))))
  (tAsg (tLst (tCons (tOp (oIx K) (tVar 6) (tC (.int 1))) (tCons (tOp (oIx K) (tVar 6) (tC (.int 0))) tNil))) (gName 6))
  tNext)
  (tRet (tLst (tCons (tVar 3) (tCons (tVar 4) (tCons (tVar 6) tNil)))))))))))
theorem pure__law_lore {K : PySem.W.Frag} {A : Ad} {vs : List V} {H : Hp} {Q : VK} {E : XK} (h : sp__law_lore K A vs H Q E) : t__law_lore K A { nx := fun _ H' => Q .non H', rt := Q } (start ["_law_pool_here", "_law_steps", "_law_cells", "_law_names", "_law_kinds", "_law_k", "_law_pairs", "_law_name_here", "_law_pair"] vs) H := by
  obtain ⟨_, _, _, rfl, p, rfl, rfl, rfl, P, k⟩ := h
  unfold t__law_lore
  refine q_seq (q_asg (q_lst (q_nil ⟨by show 0 ≤ sizeLine; decide, fun nl hnl => ?_⟩)))
  walk_at "r1"
  walk_at "r1"
  refine q_asg (q_dnew fun kd hkd => ?_)
  walk_at "r1"
  walk_at "r1"
  have D1 := Dw.new (o := .lst []) P hnl
  have nnp : nl ≠ p := fun z => by obtain ⟨ys, hp⟩ := pool_at P; rw [z, hp] at hnl; cases hnl
  have off1 : POff (upd H nl (.lst [])) p nl := (POff.new P hnl).upd nnp
  have D2 := D1.trans (.new (o := .dK []) D1.pool hkd)
  have nkn : kd ≠ nl := fun z => by rw [z, upd_same] at hkd; cases hkd
  have hkd0 : H kd = none := by rw [upd_ne nkn] at hkd; exact hkd
  have nkp : kd ≠ p := fun z => by obtain ⟨ys, hp⟩ := pool_at P; rw [z, hp] at hkd0; cases hkd0
  have off2 := off1.upd (o := .dK []) nkp
  have e1 : upd (upd H nl (.lst [])) kd (.dK []) nl = some (.lst []) := by rw [upd_ne (Ne.symm nkn), upd_same]
  have e2 : upd (upd H nl (.lst [])) kd (.dK []) kd = some (.dK []) := upd_same
  generalize upd (upd H nl (.lst [])) kd (.dK []) = H2 at D2 off2 e1 e2 ⊢
  -- the first loop
  refine q_for ?_
  refine q_cons (q_op (q_c (q_call (q_cons (q_var rfl (q_cons (q_var rfl (q_nil (s2 ⟨p, 3, rfl, rfl, by decide, by decide, D2.pool, fun r H3 r0 r1 Dr => ?_⟩)))))))))
  have D3 := D2.trans (.of Dr)
  refine q_addI (q_nil ⟨1 + r, rfl, by omega, by omega, ?_⟩)
  refine for_range (fun i σ H' => ∃ us v5 v7, σ = [some (.ref p), some (.int 3), some (.int 2), some (.ref nl), some (.ref kd), v5, none, v7, none] ∧ Lp1 H H' p nl kd i us)
    ⟨[], none, none, rfl, D3.pool, D3.ex, D3.hd, off2.dw D2.pool (.of Dr), Dr.2.to e1 nnp, ⟨[], Dr.2.to e2 nkp, Nat.le_refl _, fun nm h => by cases h⟩, rfl⟩ ?_ ?_
  · rintro i σ H' hi ⟨us, v5, v7, rfl, L⟩
    have hi2 : i ≤ 2 := by omega
    walk_at "rd"
    refine s2 ⟨p, nl, us, rfl, rfl, L.pool, L.hn, by rw [L.ul]; omega, nnp, fun z H4 hz hzn D4 => ?_⟩
    have d4 := Dw.of D4
    have hn4 := D4.2.to L.hn nnp
    walk_at "rd"
    refine q_bm (q_var rfl ⟨tyL hn4, ?_⟩)
    walk_at "rd"
    refine q_append hn4 (by rw [List.length_map, L.ul, sizeLine_eq]; omega) ?_
    have off4 := L.off.dw L.pool d4
    have P5 : Pool (upd H4 nl (.lst (us.map V.str ++ [.str z]))) p := D4.1.at_off off4 nnp
    have hk4 := L.hk.mono L.pool d4 nkp
    obtain ⟨kvs, hkv, hkl, hka⟩ := hk4
    have hkv5 : upd H4 nl (.lst (us.map V.str ++ [.str z])) kd = some (.dK kvs) := by rw [upd_ne nkn]; exact hkv
    have t5 : Tk H4 (upd H4 nl (.lst (us.map V.str ++ [.str z]))) := Tk.lst hn4
    have ex5 : Ex p H (upd H4 nl (.lst (us.map V.str ++ [.str z]))) := fun a o n e => by
      have : a ≠ nl := fun z => by rw [z, hnl] at e; cases e
      rw [upd_ne this]
      exact d4.ex a o n (L.ex a o n e)
    have hd5 : Hd p H (upd H4 nl (.lst (us.map V.str ++ [.str z]))) := (L.hd.trans d4.hd).trans (Hd.off nnp)
    have off5 := off4.upd (o := .lst (us.map V.str ++ [.str z])) nnp
    have hn5 : upd H4 nl (.lst (us.map V.str ++ [.str z])) nl = some (.lst (us.map V.str ++ [.str z])) := upd_same
    generalize upd H4 nl (.lst (us.map V.str ++ [.str z])) = H5 at P5 hkv5 t5 ex5 hd5 off5 hn5 ⊢
    walk_at "rd"
    refine s1 ⟨p, rfl, P5, fun v H6 d6 hv => ?_⟩
    have hkv6 := d6.ex _ _ nkp hkv5
    refine q_gsub (q_var rfl (q_var rfl (q_setD (k := Sum.inr z) hkv6 (by rw [sizeLine_eq]; omega) ?_)))
    have t6 : Tk H4 H6 := t5.trans (d6.tk P5)
    have tk : Tk H6 (upd H6 kd (.dK (putK kvs (Sum.inr z) v))) := Tk.dk hkv6
    refine ⟨us ++ [z], _, _, rfl, ?_, ?_, ?_, ?_, ?_, ?_, ?_⟩
    · refine Pool.at_off d6.pool ?_ nkp
      intro l r e zz
      obtain ⟨l0, cs, a0, b, c, d0, hp, hl, _⟩ := d6.pool
      rw [hp] at e
      cases e
      rw [zz, hkv6] at hl
      cases hl
    · intro a o n e
      have : a ≠ kd := fun z => by rw [z, hkd0] at e; cases e
      rw [upd_ne this]
      exact d6.ex a o n (ex5 a o n e)
    · exact (hd5.trans d6.hd).trans (Hd.off nkp)
    · exact (off5.dw P5 d6).upd nkp
    · rw [upd_ne (Ne.symm nkn), d6.ex _ _ nnp hn5, List.map_append]
      rfl
    · refine ⟨_, upd_same, Nat.le_trans (length_putK _ _ _) (by omega), fun nm hnm => ?_⟩
      rw [valV_put]
      by_cases hz' : nm = z
      · subst hz'
        exact ⟨hz, v, by rw [if_pos rfl], hv.mono tk⟩
      · rcases List.mem_append.mp hnm with hm | hm
        · obtain ⟨h1, w, h2, h3⟩ := hka nm hm
          exact ⟨h1, w, by rw [if_neg (fun e => hz' (Sum.inr.inj e))]; exact h2, h3.mono (t6.trans tk)⟩
        · exact absurd (List.mem_singleton.mp hm) hz'
    · rw [List.length_append, L.ul]
      rfl
  · rintro σ H4 ⟨names, v5, v7, rfl, L⟩
    have hnl1 : 1 ≤ names.length := by rw [L.ul]; omega
    have hnl3 : names.length ≤ 3 := by rw [L.ul]; omega
    walk_at "rd"
    refine q_lst (q_nil ⟨by show 0 ≤ sizeLine; decide, fun pl hpl => ?_⟩)
    walk_at "r1"
    walk_at "r1"
    have npn : pl ≠ nl := fun z => by rw [z, L.hn] at hpl; cases hpl
    have npp : pl ≠ p := fun z => by obtain ⟨ys, hp⟩ := pool_at L.pool; rw [z, hp] at hpl; cases hpl
    have npk : pl ≠ kd := fun z => by obtain ⟨kvs, hk, _⟩ := L.hk; rw [z, hk] at hpl; cases hpl
    have D5 := Dw.new (o := .lst []) L.pool hpl
    have off5 := (POff.new L.pool hpl).upd (o := .lst []) npp
    have e5 : upd H4 pl (.lst []) pl = some (.lst []) := upd_same
    generalize upd H4 pl (.lst []) = H5 at D5 off5 e5 ⊢
    refine q_for ?_
    refine q_cons (q_call (q_cons (q_var rfl (q_cons (q_op (q_var rfl (q_c (q_addI (q_nil (s2 ⟨p, 3, rfl, rfl, by decide, by decide, D5.pool, fun m H6 m0 m1 D6 => ?_⟩))))))))))
    have d6 := D5.trans (.of D6)
    refine q_nil ⟨m, rfl, by omega, by omega, ?_⟩
    -- what is left, with the cells in their order
    have fin : ∀ (pl' : Addr) (cs : List Cell) (H7 : Hp) (v5 v7 v8 : Option V), Dw p H4 H7 → CellsL H7 pl' cs → pl' ≠ p → cs.length ≤ 2 → Good cs → Asc cs →
        (tRet (tLst (tCons (tVar 3) (tCons (tVar 4) (tCons (tVar 6) tNil))))) { nx := fun _ H' => Q .non H', rt := Q } [some (.ref p), some (.int 3), some (.int 2), some (.ref nl), some (.ref kd), v5, some (.ref pl'), v7, v8] H7 := by
      intro pl' cs H7 v5 v7 v8 d7 hc hne h2 hg ha
      refine q_ret (q_lst (q_cons (q_var rfl (q_cons (q_var rfl (q_cons (q_var rfl (q_nil ⟨by show 3 ≤ sizeLine; decide, fun lp hlp => ?_⟩))))))))
      have dn := Dw.new (o := .lst [.ref nl, .ref kd, .ref pl']) d7.pool hlp
      have nlp : lp ≠ p := fun z => by obtain ⟨ys, hp⟩ := pool_at d7.pool; rw [z, hp] at hlp; cases hlp
      have d47 := d7.trans dn
      obtain ⟨xs, hx, ht⟩ := hc
      refine k lp nl kd pl' names cs _ ?_ ⟨upd_same, d47.ex _ _ nnp L.hn, ⟨xs, dn.ex _ _ hne hx, ht.mono (dn.tk d7.pool)⟩, nlp, nnp, hne, hnl1, hnl3, h2⟩ ?_ nkp hg ha
      · exact ⟨d47.pool, L.ex.trans d47.ex, L.hd.trans d47.hd⟩
      · obtain ⟨kvs, h1, h2, h3⟩ := L.hk.mono L.pool d47 nkp
        exact ⟨kvs, h1, by omega, h3⟩
    refine for_range (fun i σ H' => ∃ cs v5 v7 v8, σ = [some (.ref p), some (.int 3), some (.int 2), some (.ref nl), some (.ref kd), v5, some (.ref pl), v7, v8] ∧ Lp2 H4 H' p pl i cs)
      ⟨[], v5, v7, none, rfl, d6.pool, d6.ex, d6.hd, off5.dw D5.pool (.of D6), ⟨[], D6.2.to e5 npp, .nil⟩, ⟨List.nodup_nil, fun c h => by (cases h), fun c h => by (cases h)⟩, rfl⟩ ?_ ?_
    · rintro i σ H' hi ⟨cs, v5, v7, v8, rfl, M⟩
      have hi2 : i ≤ 1 := by omega
      obtain ⟨xs, hx, ht⟩ := M.hc
      have hxl : xs.length = cs.length := by rw [ht.len, List.length_map]
      walk_at "rd"
      refine Or.inl (q_var rfl ⟨pl, rfl, ⟨_, SqL.of hx⟩, fun D hnD => ?_⟩)
      have hDpl : D ≠ pl := fun z => by rw [z, hx] at hnD; cases hnD
      refine lc_list (K := K) (a := pl) (xs := xs) (fun j H'' => H'' = upd H' D (.lst ((cs.take j).map fun c => V.str c.1))) (by rw [List.take_zero]; rfl) (fun j H'' _ e => by rw [e]; exact SqL.of (by rw [upd_ne (Ne.symm hDpl)]; exact hx)) ?_ ?_
      · rintro j x H'' hxj rfl
        have hj : j < cs.length := by rw [← hxl]; exact (List.getElem?_eq_some_iff.mp hxj).1
        obtain ⟨q, hq, hqt⟩ := cell_at ht hj
        rw [hxj] at hq
        cases hq
        refine ⟨rfl, ?_⟩
        refine q_yes ?_
        refine q_T ?_
        refine q_op (q_var rfl (q_c (q_ixT (same_new hnD _ _ hqt) rfl ?_)))
        refine ⟨_, upd_same, by rw [List.length_map, List.length_take, sizeLine_eq]; have := M.cl; omega, ?_⟩
        rw [List.take_add_one, List.getElem?_eq_getElem hj, List.map_append]
        funext a
        by_cases ha : a = D
        · rw [ha, upd_same, upd_same]; rfl
        · rw [upd_ne ha, upd_ne ha, upd_ne ha]
      · rintro H'' rfl
        rw [hxl, List.take_of_length_le (Nat.le_refl _)]
        have dD := Dw.new (o := .lst (cs.map fun c => V.str c.1)) M.pool hnD
        have hDp : D ≠ p := fun z => by obtain ⟨ys, hp⟩ := pool_at M.pool; rw [z, hp] at hnD; cases hnD
        have eD : upd H' D (.lst (cs.map fun c => V.str c.1)) D = some (.lst ((cs.map (·.1)).map V.str)) := by rw [upd_same, List.map_map]; rfl
        generalize upd H' D (.lst (cs.map fun c => V.str c.1)) = H7 at dD eD ⊢
        refine q_nil (s2 ⟨p, D, cs.map (·.1), rfl, rfl, dD.pool, eD, by rw [List.length_map, M.cl]; omega, hDp, fun z H8 hz hzn D8 => ?_⟩)
        have d8 := dD.trans (.of D8)
        walk_at "rd"
        have hx8 : H8 pl = some (.lst xs) := d8.ex _ _ npp hx
        refine q_bm (q_var rfl ⟨tyL hx8, ?_⟩)
        refine q_cons (q_tup (q_cons (q_var rfl (q_cons (q_op (q_c (q_call (q_cons (q_var rfl (q_cons (q_c (q_nil (s2 ⟨p, 2, rfl, rfl, by decide, by decide, D8.1, fun r2 H9 r20 r21 D9 => ?_⟩)))))))))))))
        refine q_addI (q_nil ⟨by show 2 ≤ sizeLine; decide, fun t hnt => ?_⟩)
        have d9 := d8.trans (.of D9)
        have d10 := d9.trans (.new (o := .tup [.str z, .int (2 + r2)]) d9.pool hnt)
        have hx10 := d10.ex _ _ npp hx
        have ht10 := ht.mono (d10.tk M.pool)
        have et : upd H9 t (.tup [.str z, .int (2 + r2)]) t = some (.tup [.str z, .int (2 + r2)]) := upd_same
        generalize upd H9 t (.tup [.str z, .int (2 + r2)]) = H10 at d10 hx10 ht10 et ⊢
        refine q_nil (q_append hx10 (by rw [hxl, M.cl, sizeLine_eq]; omega) ?_)
        have tk : Tk H10 (upd H10 pl (.lst (xs ++ [.ref t]))) := Tk.lst hx10
        refine ⟨cs ++ [(z, 2 + r2)], _, _, _, rfl, ?_, ?_, ?_, ?_, ?_, ?_, ?_⟩
        · exact d10.pool.at_off (M.off.dw M.pool d10) npp
        · intro a o n e
          have : a ≠ pl := fun z => by rw [z, hpl] at e; cases e
          rw [upd_ne this]
          exact d10.ex a o n (M.ex a o n e)
        · exact (M.hd.trans d10.hd).trans (Hd.off npp)
        · exact (M.off.dw M.pool d10).upd npp
        · refine ⟨_, upd_same, ?_⟩
          rw [List.map_append]
          exact TpA.app (ht10.mono tk) (.cons (.mk2 (tk _ _ et) (.str _) (.int _)) .nil)
        · refine ⟨?_, fun c hc => ?_, fun c hc => ?_⟩
          · rw [List.map_append, List.nodup_append]
            refine ⟨M.gd.nd, by simp, fun a ha b hb => ?_⟩
            simp only [List.map_cons, List.map_nil, List.mem_singleton] at hb
            subst hb
            exact fun e => hzn (e ▸ ha)
          · rcases List.mem_append.mp hc with hc | hc
            · exact M.gd.nm c hc
            · rw [List.mem_singleton.mp hc]; exact hz
          · rcases List.mem_append.mp hc with hc | hc
            · exact M.gd.sz c hc
            · rw [List.mem_singleton.mp hc]
              show 2 + r2 = 2 ∨ 2 + r2 = 3
              omega
        · rw [List.length_append, M.cl]
          rfl
    · rintro σ H7 ⟨cs, v5, v7, v8, rfl, M⟩
      have hc2 : cs.length ≤ 2 := by rw [M.cl]; omega
      have dM : Dw p H4 H7 := ⟨M.pool, M.ex, M.hd⟩
      obtain ⟨xs, hx, ht⟩ := M.hc
      have hxl : xs.length = cs.length := by rw [ht.len, List.length_map]
      walk_at "r1"
      walk_at "r1"
      by_cases h2 : cs.length = 2
      · match cs, h2, M, ht, hxl with
        | [a, b], _, M, ht, hxl =>
          obtain ⟨qa, ha, hat⟩ := cell_at ht (show 0 < 2 by decide)
          obtain ⟨qb, hb, hbt⟩ := cell_at ht (show 1 < 2 by decide)
          have hat : H7 qa = some (.tup [.str a.1, .int a.2]) := hat
          have hbt : H7 qb = some (.tup [.str b.1, .int b.2]) := hbt
          have ha : atI xs (0 : Int) = some (.ref qa) := at_of (by decide) ha
          have hb : atI xs (1 : Int) = some (.ref qb) := at_of (by decide) hb
          have hne : a.1 ≠ b.1 := fun e => by
            have := M.gd.nd
            simp [e] at this
          have g2 : Good [b, a] := ⟨by have := M.gd.nd; simp at this ⊢; exact fun e => this e.symm, fun c hc => M.gd.nm c (by simp at hc ⊢; exact hc.symm), fun c hc => M.gd.sz c (by simp at hc ⊢; exact hc.symm)⟩
          refine q_ifA (an_and (an_test (va_eqS (va_lenL (ar := tNil) (va_var rfl) hx) va_c rfl)) fun _ => an_test (va_op (va_ixT (va_ixL (va_var rfl) va_c hx hb) va_c hbt rfl) (va_ixT (va_ixL (va_var rfl) va_c hx ha) va_c hat rfl) fun Q q => ⟨_, _, rfl, rfl, q⟩)) (fun e => ?_) (fun e => ?_)
          · have hlt : b.1.cps.toList < a.1.cps.toList := by
              have := (Bool.and_eq_true_iff.mp e).2
              exact of_decide_eq_true this
            refine q_asg (q_lst (q_cons (q_val (va_ixL (va_var rfl) va_c hx hb) (q_cons (q_val (va_ixL (va_var rfl) va_c hx ha) (q_nil ⟨by show 2 ≤ sizeLine; decide, fun s hs => ?_⟩))))))
            walk_at "r1"
            have ds := Dw.new (o := .lst [.ref qb, .ref qa]) M.pool hs
            have nsp : s ≠ p := fun z => by obtain ⟨ys, hp⟩ := pool_at M.pool; rw [z, hp] at hs; cases hs
            have tks := ds.tk M.pool
            refine fin s [b, a] _ v5 v7 v8 (dM.trans ds) ⟨_, upd_same, .cons (.mk2 (tks _ _ hbt) (.str _) (.int _)) (.cons (.mk2 (tks _ _ hat) (.str _) (.int _)) .nil)⟩ nsp (show 2 ≤ 2 by decide) g2 (asc_two (Ne.symm hne) ?_)
            exact fun h => absurd (List.lt_trans hlt h) (List.lt_irrefl _)
          · have hnlt : ¬ b.1.cps.toList < a.1.cps.toList := fun h => by
              rw [decide_eq_true h, Bool.and_true] at e
              have hl2 : xs.length = 2 := hxl
              rw [hl2] at e
              exact absurd e (by decide)
            exact fin pl [a, b] _ v5 v7 v8 dM ⟨xs, hx, ht⟩ npp (show 2 ≤ 2 by decide) M.gd (asc_two hne hnlt)
      · refine q_ifA (b := false) (Ans.to (an_and (b2 := false) (an_test (va_eqS (va_lenL (ar := tNil) (va_var rfl) hx) va_c rfl)) fun e => ?_) ?_) (fun e => nomatch e) (fun _ => ?_)
        · exact absurd (of_decide_eq_true e) (fun z => h2 (by rw [← hxl]; injection z with z; omega))
        · rw [Bool.and_false]
        · exact fin pl cs _ v5 v7 v8 dM ⟨xs, hx, ht⟩ npp hc2 M.gd (asc_small (by omega))

theorem bl1 {x y : V} : List.lookup ("_steps" : Str) [("_steps", x), ("_sizes", y)] = some x := by simp [List.lookup]
theorem bl2 {x y : V} : List.lookup ("_sizes" : Str) [("_steps", x), ("_sizes", y)] = some y := by
  have h : (("_sizes" : Str) == ("_steps" : Str)) = false := by decide +kernel
  simp [List.lookup, h]
theorem bl3 {x y : V} : List.lookup ("add_cell" : Str) [("_steps", x), ("_sizes", y)] = none := by
  have h : (("add_cell" : Str) == ("_steps" : Str)) = false := by decide +kernel
  have h2 : (("add_cell" : Str) == ("_sizes" : Str)) = false := by decide +kernel
  simp [List.lookup, h, h2]
theorem bp1 {x y z : V} : putF "_steps" z [("_steps", x), ("_sizes", y)] = ([("_steps", z), ("_sizes", y)] : List (Str × V)) := by simp [putF]
theorem bp2 {x y z : V} : putF "_sizes" z [("_steps", x), ("_sizes", y)] = ([("_steps", x), ("_sizes", z)] : List (Str × V)) := by
  have h : ¬ ("_steps" : Str) = "_sizes" := by decide +kernel
  simp [putF, h]
def BookK (A : Ad) (H : Hp) (b : Addr) (names : List Str) (cs : List Cell) : Prop := ∃ dx sp zp kvs, H b = some (.ins A.c_Book dx [("_steps", .ref sp), ("_sizes", .ref zp)]) ∧ H sp = some (.dK kvs) ∧ (∀ s : Str, (valV kvs (Sum.inr s : Key)).isSome = decide (s ∈ names)) ∧ H zp = some (.dK (cs.map cellK))
theorem BookK.z {A : Ad} {H : Hp} {b : Addr} {names : List Str} {cs : List Cell} (h : BookK A H b names cs) : BookZ A H b cs := by
  obtain ⟨dx, sp, zp, kvs, h1, _, _, h2⟩ := h
  exact ⟨dx, _, zp, h1, bl2, h2⟩
theorem put_some (kvs : List (Key × V)) (k k' : Key) (v : V) : (valV (putK kvs k v) k').isSome = (decide (k' = k) || (valV kvs k').isSome) := by
  rw [valV_put]
  by_cases h : k' = k
  · rw [if_pos h, decide_eq_true h]
    rfl
  · rw [if_neg h, decide_eq_false h, Bool.false_or]
theorem put_keys {kvs : List (Key × V)} {us : List Str} {nm : Str} {v : V} (h : ∀ s : Str, (valV kvs (Sum.inr s : Key)).isSome = decide (s ∈ us)) : ∀ s : Str, (valV (putK kvs (Sum.inr nm : Key) v) (Sum.inr s : Key)).isSome = decide (s ∈ us ++ [nm]) := fun s => by
  rw [put_some, h]
  by_cases e : s = nm
  · subst e
    simp
  · have e1 : ¬ (Sum.inr s : Key) = Sum.inr nm := fun z => e (Sum.inr.inj z)
    simp [e, e1]
def sp__law_book (_ : PySem.W.Frag) (A : Ad) : Sp := Sp1 fun x H Q _ => ∃ (p lp nl kd pl : Addr) (names : List Str) (cs : List Cell), x = .ref lp ∧ Lore H p lp nl kd pl names cs ∧ KindsK H kd names 3 ∧ Good cs ∧ ∀ b H', Same H H' → BookK A H' b names cs → Q (.ref b) H'
def t__law_book (K : PySem.W.Frag) (A : Ad) : TS :=
  (tSeq (tAsg (tMake A.c_Book (sp_Book___init__ K A) [] E0 tNil) (gName 1))
  (tSeq (tFor (iAny K (tOp (oIxX K) (tVar 0) (tC (.int 0)))) (gName 2)
  (tAsg (tOp (oIxX K) (tOp (oIxX K) (tVar 0) (tC (.int 1))) (tVar 2)) (gSub (tVar 1) (tVar 2) (rSetO A.c_Book (sp_Book___setitem__ K A) E0))))
  (tSeq (tFor (iAny K (tOp (oIxX K) (tVar 0) (tC (.int 2)))) (gName 3)
  (tDrop (tMeth A.c_Book "add_cell" (sp_Book_add_cell K A) [] E0 (tVar 1) (tCons (tOp (oIxX K) (tVar 3) (tC (.int 0))) (tCons (tOp (oIxX K) (tVar 3) (tC (.int 1))) tNil)))))
  (tRet (tVar 1)))))
theorem pure__law_book {K : PySem.W.Frag} {A : Ad} {vs : List V} {H : Hp} {Q : VK} {E : XK} (h : sp__law_book K A vs H Q E) : t__law_book K A { nx := fun _ H' => Q .non H', rt := Q } (start ["_law_lore_here", "_law_book_here", "_law_name_here", "_law_pair"] vs) H := by
  obtain ⟨_, rfl, p, lp, nl, kd, pl, names, cs, rfl, L, hK, hG, k⟩ := h
  obtain ⟨xs, hx, ht⟩ := L.h2
  obtain ⟨kvs0, hkd, hkl, hka⟩ := hK
  have hxl : xs.length = cs.length := by rw [ht.len, List.length_map]
  unfold t__law_book
  refine q_seq (q_asg (q_make (q_nil fun b dx hb hdx hne => ⟨_, rfl, b, dx, rfl, upd_same, fun sp zp H1 hsp hzp ex hb1 hs1 hz1 => ⟨rfl, ?_⟩⟩)))
  have S1 : Same H H1 := fun a o e => by
    have a1 : a ≠ b := fun z => by rw [z, hb] at e; cases e
    have a2 : a ≠ dx := fun z => by rw [z, hdx] at e; cases e
    exact ex a o a1 (by rw [upd_ne a1, upd_ne a2]; exact e)
  walk_at "r1"
  walk_at "r1"
  refine q_for ?_
  refine Or.inl (q_op (q_var rfl (q_c (q_ixX (q_ixL (S1 _ _ L.h0) rfl ⟨nl, rfl, ⟨_, SqL.of (S1 _ _ L.h1)⟩, ?_⟩)))))
  refine for_list (K := K) (a := nl) (xs := names.map V.str) (fun i σ H' => ∃ v2 sp zp kvs, σ = [some (.ref lp), some (.ref b), v2, none] ∧ Same H H' ∧ H' b = some (.ins A.c_Book dx [("_steps", .ref sp), ("_sizes", .ref zp)]) ∧ H' sp = some (.dK kvs) ∧ kvs.length ≤ i ∧ (∀ s : Str, (valV kvs (Sum.inr s : Key)).isSome = decide (s ∈ names.take i)) ∧ H' zp = some (.dK []))
    ⟨none, sp, zp, [], rfl, S1, hb1, hs1, Nat.le_refl _, fun s => by simp [valV], hz1⟩ (fun i σ H' _ ⟨_, _, _, _, _, s, _⟩ => SqL.of (s _ _ L.h1)) ?_ ?_
  · rintro i x σ H' hxi ⟨v2, sp, zp, kvs, rfl, S, hb', hs', hl', hkk, hz'⟩
    rw [List.getElem?_map] at hxi
    obtain ⟨nm, hnm, rfl⟩ := Option.map_eq_some_iff.mp hxi
    obtain ⟨hN, v, hv, hkv⟩ := hka nm (List.mem_of_getElem? hnm)
    have hi : i < names.length := (List.getElem?_eq_some_iff.mp hnm).1
    have hi3 := L.l3
    walk_at "rd"
    refine q_ixX (q_ixL (S _ _ L.h0) rfl ?_)
    walk_at "rd"
    refine q_ixD (k := Sum.inr nm) (S _ _ hkd) hv ?_
    refine q_gsub (q_var rfl (q_var rfl ⟨b, dx, _, rfl, hb', _, _, _, rfl, b, dx, sp, _, kvs, nm, rfl, rfl, hN, hkv.mono (Tk.same S), hb', bl1, by show 2 < 1000; decide, hs', by omega, fun np kvs' H2 hnp ex2 hb2 hn2 hl2 hk2 => ?_⟩))
    rw [bp1] at hb2
    have nb : b ≠ zp := ne_of hb' hz' (by intro z; cases z)
    refine ⟨_, np, zp, kvs', rfl, Ex.to hb S ex2, hb2, hn2, by omega, ?_, ex2 _ _ (Ne.symm nb) hz'⟩
    rw [List.take_add_one, hnm, hk2]
    exact put_keys hkk
  · rintro σ H2 ⟨v2, sp, zp, kvs, rfl, S, hb', hs', hl', hkk, hz'⟩
    rw [List.length_map, List.take_of_length_le (Nat.le_refl _)] at hkk
    walk_at "r1"
    refine q_for ?_
    refine Or.inl (q_op (q_var rfl (q_c (q_ixX (q_ixL (S _ _ L.h0) rfl ⟨pl, rfl, ⟨_, SqL.of (S _ _ hx)⟩, ?_⟩)))))
    refine for_list (K := K) (a := pl) (xs := xs) (fun i σ H' => ∃ v3 sp zp, σ = [some (.ref lp), some (.ref b), v2, v3] ∧ Same H H' ∧ H' b = some (.ins A.c_Book dx [("_steps", .ref sp), ("_sizes", .ref zp)]) ∧ H' sp = some (.dK kvs) ∧ H' zp = some (.dK ((cs.take i).map cellK)))
      ⟨none, sp, zp, rfl, S, hb', hs', by rw [List.take_zero]; exact hz'⟩ (fun i σ H' _ ⟨_, _, _, _, s, _⟩ => SqL.of (s _ _ hx)) ?_ ?_
    · rintro i x σ H' hxi ⟨v3, sp, zp, rfl, S, hb', hs', hz'⟩
      have hi : i < cs.length := by rw [← hxl]; exact (List.getElem?_eq_some_iff.mp hxi).1
      obtain ⟨q, hq, hqt⟩ := cell_at ht hi
      rw [hxi] at hq
      cases hq
      have hci : cs[i] ∈ cs := List.getElem_mem hi
      have hl2 := L.l2
      have hqt' := S _ _ hqt
      refine q_name (q_drop (q_meth (q_var rfl ⟨b, dx, _, rfl, hb', bl3, ?_⟩)))
      refine q_cons (q_op (q_var rfl (q_c (q_ixX (q_ixT hqt' rfl ?_)))))
      refine q_cons (q_op (q_var rfl (q_c (q_ixX (q_ixT hqt' rfl ?_)))))
      refine q_nil ⟨_, _, _, rfl, b, dx, zp, _, cs.take i, cs[i].1, cs[i].2, rfl, rfl, hG.nm _ hci, rfl, hG.sz _ hci, hb', bl2, by show 2 < 1000; decide, hz', by rw [List.length_take]; omega, fun c hc => ?_, fun np H3 hnp ex3 hb3 hn3 => ?_⟩
      · obtain ⟨m, hm, e⟩ := List.getElem_of_mem hc
        rw [List.length_take] at hm
        rw [List.getElem_take] at e
        exact (dis_of hG.nd i cs[i] (List.getElem?_eq_getElem hi)).2 m c (by omega) (by rw [List.getElem?_eq_getElem (by omega), e])
      · rw [bp2] at hb3
        refine ⟨_, sp, np, rfl, Ex.to hb S ex3, hb3, ex3 _ _ (ne_of hs' hb' (by intro z; cases z)) hs', ?_⟩
        rw [List.take_add_one, List.getElem?_eq_getElem hi]
        exact hn3
    · rintro σ H3 ⟨v3, sp, zp, rfl, S, hb', hs', hz'⟩
      rw [hxl, List.take_of_length_le (Nat.le_refl _)] at hz'
      walk_at "rd"
      exact k b _ S ⟨dx, sp, zp, kvs, hb', hs', hkk, hz'⟩
/-! ### actions -/
inductive AD (cs : List Cell) : Nat → PyData → Prop
  | mk {n : Nat} {g s : Str} {a : PyData} {fs : List PyData} (hg : g = "done" ∨ g = "error" ∨ g = "always") (ha : ArgD cs a) (hl : fs.length ≤ 3) (hf : ∀ f ∈ fs, AD cs n f) : AD cs (n + 1) (.tuple [.str g, .str s, a, .tuple fs])
theorem ArgD.depth {cs : List Cell} {a : PyData} (h : ArgD cs a) : a.depth ≤ 1 := by
  cases h <;> simp [PyData.depth, PyData.depthAll]
theorem depthAll_le {fs : List PyData} {n : Nat} (h : ∀ f ∈ fs, f.depth ≤ n) : PyData.depthAll fs ≤ n := by
  induction fs with
  | nil => exact Nat.zero_le _
  | cons x r ih =>
    show max x.depth (PyData.depthAll r) ≤ n
    exact Nat.max_le.mpr ⟨h x List.mem_cons_self, ih fun f hf => h f (List.mem_cons_of_mem _ hf)⟩
theorem AD.depth {cs : List Cell} : ∀ {n : Nat} {d : PyData}, AD cs n d → d.depth ≤ 2 * n
  | n + 1, _, .mk hg ha hl hf => by
    have h1 := ha.depth
    have h2 := depthAll_le fun f hm => AD.depth (hf f hm)
    simp [PyData.depth, PyData.depthAll]
    omega
/-- what a call of an action's making promises, with at most n levels left -/
def act_at (n : Nat) : Sp := Sp3 fun x y z H Q _ => ∃ (p lp nl kd pl : Addr) (names : List Str) (cs : List Cell) (dep m : Nat), x = .ref p ∧ y = .ref lp ∧ z = .int dep ∧ dep + m = 3 ∧ 0 < m ∧ m ≤ n ∧ Pool H p ∧ Lore H p lp nl kd pl names cs ∧
  ∀ v d H', Dw p H H' → Tp H' v d → AD cs m d → Q v H'
abbrev rec_law_action (_ : PySem.W.Frag) (_ : Ad) (n : Nat) : Sp := act_at n
theorem no_law_action {vs : List V} {H : Hp} {Q : VK} {E : XK} (h : act_at 0 vs H Q E) : False := by
  obtain ⟨_, _, _, _, _, _, _, _, _, _, _, _, m, _, _, _, _, h0, h1, _⟩ := h
  omega
abbrev sp__law_action (_ : PySem.W.Frag) (_ : Ad) : Sp := act_at 3
def t__law_action (K : PySem.W.Frag) (A : Ad) (rec : Sp) : TS :=
  (tSeq (tAsg (tOp (oIx K) (tLst (tCons (tC (.str "done")) (tCons (tC (.str "error")) (tCons (tC (.str "always")) tNil)))) (tCall (sp__law_draw K A) [] E0 (tCons (tVar 0) (tCons (tC (.int 3)) tNil)))) (gName 3))
  (tSeq (tAsg (tOp (oIx K) (tOp (oIx K) (tVar 1) (tC (.int 0))) (tCall (sp__law_draw K A) [] E0 (tCons (tVar 0) (tCons (tCB (cLen K) (tCons (tOp (oIx K) (tVar 1) (tC (.int 0))) tNil)) tNil)))) (gName 4))
  (tSeq (tAsg (tCall (sp__law_argument K A) [] E0 (tCons (tVar 0) (tCons (tVar 1) (tCons (tC (.bl true)) tNil)))) (gName 5))
  (tSeq (tAsg (tTup tNil) (gName 6))
  (tSeq (tIfS (tAnd (tTest (tOp (oNe K) (tVar 3) (tC (.str "error")))) (tAnd (tTest (tOp oLt (tVar 2) (tC (.int 2)))) (tTest (tOp (oEq K) (tCall (sp__law_draw K A) [] E0 (tCons (tVar 0) (tCons (tC (.int 3)) tNil))) (tC (.int 2))))))
  (tFor (iRng1 (tCons (tOp (oAddX K) (tC (.int 1)) (tCall (sp__law_draw K A) [] E0 (tCons (tVar 0) (tCons (tOp oSub (tC (.int 3)) (tVar 2)) tNil)))) tNil)) (gName 7)
  (tAsg (tOp (oAddX K) (tVar 6) (tTup (tCons (tCall rec [] E0 (tCons (tVar 0) (tCons (tVar 1) (tCons (tOp (oAddX K) (tVar 2) (tC (.int 1))) tNil)))) tNil))) (gName 6)))
  tNext)
  (tRet (tTup (tCons (tVar 3) (tCons (tVar 4) (tCons (tVar 5) (tCons (tVar 6) tNil)))))))))))

theorem pure__law_action {K : PySem.W.Frag} {A : Ad} {n : Nat} {vs : List V} {H : Hp} {Q : VK} {E : XK} (h : act_at (n + 1) vs H Q E) : t__law_action K A (act_at n) { nx := fun _ H' => Q .non H', rt := Q } (start ["_law_pool_here", "_law_lore_here", "_law_depth", "_law_guard", "_law_step", "_law_argument_here", "_law_further", "_law_k"] vs) H := by
  obtain ⟨_, _, _, rfl, p, lp, nl, kd, pl, names, cs, dep, m, rfl, rfl, rfl, hdm, hm0, hmn, P, L, k⟩ := h
  unfold t__law_action
  refine q_seq (q_asg (q_op (q_lst (q_cons (q_c (q_cons (q_c (q_cons (q_c (q_nil ⟨by show 3 ≤ sizeLine; decide, fun gl hgl => ?_⟩))))))))))
  have D1 := Dw.new (o := .lst [.str "done", .str "error", .str "always"]) P hgl
  have ngp : gl ≠ p := fun z => by obtain ⟨ys, hp⟩ := pool_at P; rw [z, hp] at hgl; cases hgl
  have eg : upd H gl (.lst [.str "done", .str "error", .str "always"]) gl = some (.lst [.str "done", .str "error", .str "always"]) := upd_same
  generalize upd H gl (.lst [.str "done", .str "error", .str "always"]) = H1 at D1 eg ⊢
  walk_at "rd"
  refine s2 ⟨p, 3, rfl, rfl, by decide, by decide, D1.pool, fun r H2 r0 r1 D2 => ?_⟩
  have d2 := D1.trans (.of D2)
  obtain ⟨g, hg, hgv⟩ : ∃ g : Str, (g = "done" ∨ g = "error" ∨ g = "always") ∧ atI [V.str "done", .str "error", .str "always"] r = some (.str g) := by
    have : r = 0 ∨ r = 1 ∨ r = 2 := by omega
    rcases this with rfl | rfl | rfl
    · exact ⟨"done", .inl rfl, rfl⟩
    · exact ⟨"error", .inr (.inl rfl), rfl⟩
    · exact ⟨"always", .inr (.inr rfl), rfl⟩
  refine q_ixL (D2.2.to eg ngp) hgv ?_
  walk_at "rd"
  have L2' := L.mono P d2
  refine q_ixL L2'.h0 rfl ?_
  walk_at "rd"
  refine q_ixL L2'.h0 rfl ?_
  walk_at "rd"
  refine q_lenL L2'.h1 ?_
  walk_at "rd"
  rw [List.length_map]
  refine s2 ⟨p, names.length, rfl, rfl, by have := L.l1; omega, by have := L.l3; omega, d2.pool, fun r3 H3 r30 r31 D3 => ?_⟩
  have d3 := d2.trans (.of D3)
  have hr3 : r3.toNat < names.length := by omega
  refine q_ixL (v := .str names[r3.toNat]) (D3.2.to L2'.h1 L.n1) (at_of r30 (by rw [List.getElem?_map, List.getElem?_eq_getElem hr3]; rfl)) ?_
  walk_at "rd"
  refine s3 ⟨p, lp, nl, kd, pl, names, cs, rfl, rfl, rfl, d3.pool, L.mono P d3, fun v a H4 d4 ha hA => ?_⟩
  have d4' := d3.trans d4
  walk_at "rd"
  refine q_tup (q_nil ⟨by show 0 ≤ sizeLine; decide, fun t0 ht0 => ?_⟩)
  have D5 := d4'.trans (.new (o := .tup []) d4'.pool ht0)
  have e0 : upd H4 t0 (.tup []) t0 = some (.tup []) := upd_same
  have ha5 := ha.mono (Tk.new (o := .tup []) ht0)
  generalize upd H4 t0 (.tup []) = H5 at D5 e0 ha5 ⊢
  -- the end, whatever the further actions are
  have fin : ∀ (H6 : Hp) (q : Addr) (xs : List V) (fs : List PyData) (v7 : Option V), Dw p H5 H6 → H6 q = some (.tup xs) → TpA H6 xs fs → fs.length ≤ 3 → (∀ f ∈ fs, AD cs (m - 1) f) →
      (tRet (tTup (tCons (tVar 3) (tCons (tVar 4) (tCons (tVar 5) (tCons (tVar 6) tNil)))))) { nx := fun _ H' => Q .non H', rt := Q } [some (.ref p), some (.ref lp), some (.int dep), some (.str g), some (.str names[r3.toNat]), some v, some (.ref q), v7] H6 := by
    intro H6 q xs fs v7 d6 hq hxs hl hf
    refine q_ret (q_tup (q_cons (q_var rfl (q_cons (q_var rfl (q_cons (q_var rfl (q_cons (q_var rfl (q_nil ⟨by show 4 ≤ sizeLine; decide, fun t ht => ?_⟩))))))))))
    have kt := Tk.new (o := .tup [.str g, .str names[r3.toNat], v, .ref q]) ht
    refine k _ (.tuple [.str g, .str names[r3.toNat], a, .tuple fs]) _ ((D5.trans d6).trans (.new d6.pool ht)) (.mk4 upd_same (.str _) (.str _) ((ha5.mono (d6.tk D5.pool)).mono kt) (.tup (kt _ _ hq) (by have := hxs.len; omega) (hxs.mono kt))) ?_
    have e : m = (m - 1) + 1 := by omega
    rw [e]
    exact .mk hg hA hl hf
  have none_ : ∀ H6, Dw p H5 H6 → (tRet (tTup (tCons (tVar 3) (tCons (tVar 4) (tCons (tVar 5) (tCons (tVar 6) tNil)))))) { nx := fun _ H' => Q .non H', rt := Q } [some (.ref p), some (.ref lp), some (.int dep), some (.str g), some (.str names[r3.toNat]), some v, some (.ref t0), none] H6 :=
    fun H6 d6 => fin H6 t0 [] [] none d6 (d6.tk D5.pool _ _ e0) .nil (Nat.zero_le _) fun f hf => by cases hf
  walk_at "r1"
  walk_at "r1"
  refine q_ifS (q_and (an_test (va_neS (va_var rfl) va_c rfl) _ ?_))
  refine q_b (fun _ => ?_) (fun _ => ?_)
  · refine q_and (an_test (va_cmp (va_var rfl) va_c) _ ?_)
    refine q_dec (fun hd2 => ?_) (fun _ => ?_)
    · walk_at "rd"
      refine s2 ⟨p, 3, rfl, rfl, by decide, by decide, D5.pool, fun r4 H6 r40 r41 D6 => ?_⟩
      have d6 := Dw.of D6
      walk_at "rd"
      refine q_eqS rfl ⟨_, rfl, ?_⟩
      refine q_dec (fun _ => ?_) (fun _ => ?_)
      · refine q_for ?_
        refine q_cons (q_op (q_c (q_call (q_cons (q_var rfl (q_cons (q_op (q_c (q_var rfl (q_subI (q_nil (s2 ⟨p, 3 - dep, rfl, rfl, by omega, by omega, d6.pool, fun r5 H7 r50 r51 D7 => ?_⟩))))))))))))
        have d7 := d6.trans (.of D7)
        refine q_addX (q_addI (q_nil ⟨1 + r5, rfl, by omega, by omega, ?_⟩))
        refine for_range (fun i σ H' => ∃ (q : Addr) (xs : List V) (fs : List PyData) (v7 : Option V), σ = [some (.ref p), some (.ref lp), some (.int dep), some (.str g), some (.str names[r3.toNat]), some v, some (.ref q), v7] ∧ Dw p H5 H' ∧ H' q = some (.tup xs) ∧ TpA H' xs fs ∧ fs.length = i ∧ ∀ f ∈ fs, AD cs (m - 1) f)
          ⟨t0, [], [], none, rfl, d7, d7.tk D5.pool _ _ e0, .nil, rfl, fun f hf => by (cases hf)⟩ ?_ ?_
        · rintro i σ H' hi ⟨q, xs, fs, v7, rfl, d8, hq, hxs, hl, hf⟩
          have hi3 : i ≤ 2 := by omega
          walk_at "rd"
          refine q_tup (q_cons (q_call (q_cons (q_var rfl (q_cons (q_var rfl (q_cons (q_op (q_var rfl (q_c (q_addX (q_addI ?_))))))))))))
          refine q_nil (s3 ⟨p, lp, nl, kd, pl, names, cs, dep + 1, m - 1, rfl, rfl, rfl, by omega, by omega, by omega, d8.pool, L.mono P (D5.trans d8), fun w d H9 d9 hw hd => ?_⟩)
          refine q_nil ⟨by show 1 ≤ sizeLine; decide, fun t1 ht1 => ?_⟩
          have hq9 := d9.tk d8.pool _ _ hq
          have kt1 := Tk.new (o := .tup [w]) ht1
          have dn := Dw.new (o := .tup [w]) d9.pool ht1
          have lx : xs.length = i := by rw [hxs.len, hl]
          refine q_snocT (kt1 _ _ hq9) upd_same (by rw [lx, sizeLine_eq]; omega) (fun ex => ?_) (fun t2 ht2 => ?_)
          · subst ex
            cases hxs
            exact ⟨t1, [w], [d], _, rfl, (d8.trans d9).trans dn, upd_same, .cons (hw.mono kt1) .nil, by rw [← hl]; rfl, fun f hf => by rw [List.mem_singleton.mp hf]; exact hd⟩
          · have kt2 := Tk.new (o := .tup (xs ++ [w])) ht2
            refine ⟨t2, xs ++ [w], fs ++ [d], _, rfl, ((d8.trans d9).trans dn).trans (.new dn.pool ht2), upd_same, ?_, by rw [List.length_append, hl]; rfl, fun f hf' => ?_⟩
            · exact TpA.app (((hxs.mono (d9.tk d8.pool)).mono kt1).mono kt2) (.cons ((hw.mono kt1).mono kt2) .nil)
            · rcases List.mem_append.mp hf' with h | h
              · exact hf f h
              · rw [List.mem_singleton.mp h]; exact hd
        · rintro σ H' ⟨q, xs, fs, v7, rfl, d8, hq, hxs, hl, hf⟩
          exact fin H' q xs fs v7 d8 hq hxs (by omega) hf
      · exact none_ _ d6
    · refine q_F ?_
      exact none_ _ (.refl D5.pool)
  · refine q_F ?_
    exact none_ _ (.refl D5.pool)

theorem Pool.same {H H' : Hp} {p : Addr} (P : Pool H p) (s : Same H H') : Pool H' p := by
  obtain ⟨l, cs, a, b, c, d, hp, hl, h⟩ := P
  exact ⟨l, cs, a, b, c, d, s _ _ hp, s _ _ hl, h⟩
theorem Dw.same {H H' : Hp} {p : Addr} (P : Pool H p) (s : Same H H') : Dw p H H' := ⟨P.same s, Ex.same s, fun _ r h => ⟨r, s _ _ h⟩⟩
theorem BookZ.mono {A : Ad} {H H' : Hp} {p b : Addr} {cs : List Cell} (h : BookZ A H b cs) (P : Pool H p) (d : Dw p H H') : BookZ A H' b cs := by
  obtain ⟨dx, fs, zp, h1, h2, h3⟩ := h
  obtain ⟨ys, hp⟩ := pool_at P
  exact ⟨dx, fs, zp, d.ex _ _ (ne_of h1 hp (by intro z; cases z)) h1, h2, d.ex _ _ (ne_of h3 hp (by intro z; cases z)) h3⟩
theorem BookZ.keep {A : Ad} {H H' : Hp} {b : Addr} {cs : List Cell} (h : BookZ A H b cs) (s : Same H H') : BookZ A H' b cs := by
  obtain ⟨dx, fs, zp, h1, h2, h3⟩ := h
  exact ⟨dx, fs, zp, s _ _ h1, h2, s _ _ h3⟩
def sp__law_rich (_ : PySem.W.Frag) (_ : Ad) : Sp := Sp2 fun x y H Q _ => ∃ (p lp nl kd pl : Addr) (names : List Str) (cs : List Cell), x = .ref p ∧ y = .ref lp ∧ Pool H p ∧ Lore H p lp nl kd pl names cs ∧ ∀ v d H', Dw p H H' → Tp H' v d → AD cs 3 d → Q v H'
def t__law_rich (K : PySem.W.Frag) (A : Ad) : TS :=
  (tSeq (tIfS (tTest (tOp (oEq K) (tCall (sp__law_draw K A) [] E0 (tCons (tVar 0) (tCons (tC (.int 3)) tNil))) (tC (.int 1))))
  (tRet (tCall (sp__law_action K A) [] E0 (tCons (tVar 0) (tCons (tVar 1) (tCons (tC (.int 0)) tNil)))))
  tNext)
  (tSeq (tAsg (tTup tNil) (gName 2))
  (tSeq (tFor (iRng1 (tCons (tOp (oAddX K) (tC (.int 1)) (tCall (sp__law_draw K A) [] E0 (tCons (tVar 0) (tCons (tC (.int 3)) tNil)))) tNil)) (gName 3)
  (tAsg (tOp (oAddX K) (tVar 2) (tTup (tCons (tCall (sp__law_action K A) [] E0 (tCons (tVar 0) (tCons (tVar 1) (tCons (tC (.int 1)) tNil)))) tNil))) (gName 2)))
  (tSeq (tAsg (tOp (oIx K) (tOp (oIx K) (tVar 1) (tC (.int 0))) (tCall (sp__law_draw K A) [] E0 (tCons (tVar 0) (tCons (tCB (cLen K) (tCons (tOp (oIx K) (tVar 1) (tC (.int 0))) tNil)) tNil)))) (gName 4))
  (tRet (tTup (tCons (tOp (oIx K) (tLst (tCons (tC (.str "always")) (tCons (tC (.str "done")) tNil))) (tCall (sp__law_draw K A) [] E0 (tCons (tVar 0) (tCons (tC (.int 2)) tNil)))) (tCons (tVar 4) (tCons (tCall (sp__law_argument K A) [] E0 (tCons (tVar 0) (tCons (tVar 1) (tCons (tC (.bl true)) tNil)))) (tCons (tVar 2) tNil))))))))))
theorem pure__law_rich {K : PySem.W.Frag} {A : Ad} {vs : List V} {H : Hp} {Q : VK} {E : XK} (h : sp__law_rich K A vs H Q E) : t__law_rich K A { nx := fun _ H' => Q .non H', rt := Q } (start ["_law_pool_here", "_law_lore_here", "_law_further", "_law_k", "_law_step"] vs) H := by
  obtain ⟨_, _, rfl, p, lp, nl, kd, pl, names, cs, rfl, rfl, P, L, k⟩ := h
  unfold t__law_rich
  walk_at "rd"
  refine s2 ⟨p, 3, rfl, rfl, by decide, by decide, P, fun r H1 r0 r1 D1 => ?_⟩
  have d1 := Dw.of D1
  walk_at "rd"
  refine q_eqS rfl ⟨_, rfl, ?_⟩
  refine q_dec (fun _ => ?_) (fun _ => ?_)
  · walk_at "rd"
    exact s3 ⟨p, lp, nl, kd, pl, names, cs, 0, 3, rfl, rfl, rfl, rfl, by decide, Nat.le_refl _, d1.pool, L.mono P d1, fun v d H2 d2 hv hd => k v d H2 (d1.trans d2) hv hd⟩
  walk_at "rd"
  refine q_tup (q_nil ⟨by show 0 ≤ sizeLine; decide, fun t0 ht0 => ?_⟩)
  have D5 := d1.trans (.new (o := .tup []) d1.pool ht0)
  have e0 : upd H1 t0 (.tup []) t0 = some (.tup []) := upd_same
  generalize upd H1 t0 (.tup []) = H5 at D5 e0 ⊢
  walk_at "r1"
  walk_at "r1"
  refine q_for ?_
  refine q_cons (q_op (q_c (q_call (q_cons (q_var rfl (q_cons (q_c (q_nil (s2 ⟨p, 3, rfl, rfl, by decide, by decide, D5.pool, fun r5 H7 r50 r51 D7 => ?_⟩)))))))))
  have d7 := Dw.of D7
  refine q_addX (q_addI (q_nil ⟨1 + r5, rfl, by omega, by omega, ?_⟩))
  refine for_range (fun i σ H' => ∃ (q : Addr) (xs : List V) (fs : List PyData) (v7 : Option V), σ = [some (.ref p), some (.ref lp), some (.ref q), v7, none] ∧ Dw p H5 H' ∧ H' q = some (.tup xs) ∧ TpA H' xs fs ∧ fs.length = i ∧ ∀ f ∈ fs, AD cs 2 f)
    ⟨t0, [], [], none, rfl, d7, d7.tk D5.pool _ _ e0, .nil, rfl, fun f hf => by (cases hf)⟩ ?_ ?_
  · rintro i σ H' hi ⟨q, xs, fs, v7, rfl, d8, hq, hxs, hl, hf⟩
    have hi3 : i ≤ 2 := by omega
    walk_at "rd"
    refine q_tup (q_cons (q_call (q_cons (q_var rfl (q_cons (q_var rfl (q_cons (q_c ?_))))))))
    refine q_nil (s3 ⟨p, lp, nl, kd, pl, names, cs, 1, 2, rfl, rfl, rfl, rfl, by decide, by decide, d8.pool, L.mono P (D5.trans d8), fun w d H9 d9 hw hd => ?_⟩)
    refine q_nil ⟨by show 1 ≤ sizeLine; decide, fun t1 ht1 => ?_⟩
    have hq9 := d9.tk d8.pool _ _ hq
    have kt1 := Tk.new (o := .tup [w]) ht1
    have dn := Dw.new (o := .tup [w]) d9.pool ht1
    have lx : xs.length = i := by rw [hxs.len, hl]
    refine q_snocT (kt1 _ _ hq9) upd_same (by rw [lx, sizeLine_eq]; omega) (fun ex => ?_) (fun t2 ht2 => ?_)
    · subst ex
      cases hxs
      exact ⟨t1, [w], [d], _, rfl, (d8.trans d9).trans dn, upd_same, .cons (hw.mono kt1) .nil, by rw [← hl]; rfl, fun f hf => by rw [List.mem_singleton.mp hf]; exact hd⟩
    · have kt2 := Tk.new (o := .tup (xs ++ [w])) ht2
      refine ⟨t2, xs ++ [w], fs ++ [d], _, rfl, ((d8.trans d9).trans dn).trans (.new dn.pool ht2), upd_same, ?_, by rw [List.length_append, hl]; rfl, fun f hf' => ?_⟩
      · exact TpA.app (((hxs.mono (d9.tk d8.pool)).mono kt1).mono kt2) (.cons ((hw.mono kt1).mono kt2) .nil)
      · rcases List.mem_append.mp hf' with h | h
        · exact hf f h
        · rw [List.mem_singleton.mp h]; exact hd
  · rintro σ H' ⟨q, xs, fs, v7, rfl, d8, hq, hxs, hl, hf⟩
    have d18 := D5.trans d8
    have L2' := L.mono P d18
    walk_at "rd"
    refine q_ixL L2'.h0 rfl ?_
    walk_at "rd"
    refine q_ixL L2'.h0 rfl ?_
    walk_at "rd"
    refine q_lenL L2'.h1 ?_
    walk_at "rd"
    rw [List.length_map]
    refine s2 ⟨p, names.length, rfl, rfl, by have := L.l1; omega, by have := L.l3; omega, d18.pool, fun r3 H3 r30 r31 D3 => ?_⟩
    have d3 := d18.trans (.of D3)
    have hr3 : r3.toNat < names.length := by omega
    refine q_ixL (v := .str names[r3.toNat]) (D3.2.to L2'.h1 L.n1) (at_of r30 (by rw [List.getElem?_map, List.getElem?_eq_getElem hr3]; rfl)) ?_
    walk_at "rd"
    refine q_tup (q_cons (q_op (q_lst (q_cons (q_c (q_cons (q_c (q_nil ⟨by show 2 ≤ sizeLine; decide, fun gl hgl => ?_⟩))))))))
    have D9 := d3.trans (.new (o := .lst [.str "always", .str "done"]) d3.pool hgl)
    have ngp : gl ≠ p := fun z => by obtain ⟨ys, hp⟩ := pool_at d3.pool; rw [z, hp] at hgl; cases hgl
    have eg : upd H3 gl (.lst [.str "always", .str "done"]) gl = some (.lst [.str "always", .str "done"]) := upd_same
    have k39 : Tk H' (upd H3 gl (.lst [.str "always", .str "done"])) := (Dw.tk d8.pool (.of D3)).trans (Tk.new hgl)
    generalize upd H3 gl (.lst [.str "always", .str "done"]) = H9 at D9 eg k39 ⊢
    walk_at "rd"
    refine s2 ⟨p, 2, rfl, rfl, by decide, by decide, D9.pool, fun r9 H10 r90 r91 D10 => ?_⟩
    obtain ⟨g, hg, hgv⟩ : ∃ g : Str, (g = "done" ∨ g = "error" ∨ g = "always") ∧ atI [V.str "always", .str "done"] r9 = some (.str g) := by
      have : r9 = 0 ∨ r9 = 1 := by omega
      rcases this with rfl | rfl
      · exact ⟨"always", .inr (.inr rfl), rfl⟩
      · exact ⟨"done", .inl rfl, rfl⟩
    refine q_ixL (D10.2.to eg ngp) hgv ?_
    have d10 := D9.trans (.of D10)
    walk_at "rd"
    refine s3 ⟨p, lp, nl, kd, pl, names, cs, rfl, rfl, rfl, d10.pool, L.mono P d10, fun v a H11 d11 ha hA => ?_⟩
    walk_at "rd"
    refine ⟨by show 4 ≤ sizeLine; decide, fun t ht => ?_⟩
    have kq : Tk H' H11 := (k39.trans (Dw.tk D9.pool (.of D10))).trans (d11.tk d10.pool)
    have kt := Tk.new (o := .tup [.str g, .str names[r3.toNat], v, .ref q]) ht
    have dl := d10.trans d11
    refine k _ (.tuple [.str g, .str names[r3.toNat], a, .tuple fs]) _ (dl.trans (.new dl.pool ht)) (.mk4 upd_same (.str _) (.str _) (ha.mono kt) (.tup (kt _ _ (kq _ _ hq)) (by have := hxs.len; omega) ((hxs.mono kq).mono kt))) ?_
    exact .mk hg hA (by omega) hf

/-! ### actions of any kind -/
inductive ArgX : PyData → Prop
  | non : ArgX .none
  | int (i : Int) : ArgX (.int i)
  | pair (w c : Str) : ArgX (.tuple [.str w, .str c])
inductive AX : Nat → PyData → Prop
  | mk {n : Nat} {g s : Str} {a : PyData} {fs : List PyData} (ha : ArgX a) (hl : fs.length ≤ 4) (hf : ∀ f ∈ fs, AX n f) : AX (n + 1) (.tuple [.str g, .str s, a, .tuple fs])
theorem AX.suc : ∀ {n : Nat} {d : PyData}, AX n d → AX (n + 1) d
  | _, _, .mk ha hl hf => .mk ha hl fun f m => (hf f m).suc
theorem AX.le {n m : Nat} {d : PyData} (h : AX n d) (l : n ≤ m) : AX m d := by
  induction l with
  | refl => exact h
  | step _ ih => exact ih.suc
theorem ArgD.x {cs : List Cell} {a : PyData} (h : ArgD cs a) : ArgX a := by
  cases h with
  | non => exact .non
  | int i => exact .int i
  | cell w c _ _ => exact .pair w c
theorem AD.x {cs : List Cell} : ∀ {n : Nat} {d : PyData}, AD cs n d → AX n d
  | _, _, .mk _ ha hl hf => .mk ha.x (by omega) fun f m => (hf f m).x
theorem ArgX.depth {a : PyData} (h : ArgX a) : a.depth ≤ 1 := by
  cases h <;> simp [PyData.depth, PyData.depthAll]
theorem AX.depth : ∀ {n : Nat} {d : PyData}, AX n d → d.depth ≤ 2 * n
  | _, _, .mk (n := n) (a := a) (fs := fs) ha _ hf => by
    have h1 := ha.depth
    have h2 : PyData.depthAll fs ≤ 2 * n := depthAll_le fun f m => (hf f m).depth
    simp [PyData.depth, PyData.depthAll]
    omega
/-- what may be wrong -/
inductive Er where
  | act | num | cell | step
def Er.fld : Er → Str
  | .act => "action"
  | .num => "number"
  | .cell => "cell"
  | .step => "step"
def Er.word : Er → Str
  | .act => "BadAction"
  | .num => "BadNumber"
  | .cell => "UnknownCell"
  | .step => "UnknownStep"
def Er.cls (A : Ad) : Er → Addr
  | .act => A.c_BadAction
  | .num => A.c_BadNumber
  | .cell => A.c_UnknownCell
  | .step => A.c_UnknownStep
def GOk (g : Str) : Prop := g = "done" ∨ g = "error" ∨ g = "always"
instance (g : Str) : Decidable (GOk g) := inferInstanceAs (Decidable (g = "done" ∨ g = "error" ∨ g = "always"))
def WOk (w : Str) : Prop := w = "now" ∨ w = "late"
instance (w : Str) : Decidable (WOk w) := inferInstanceAs (Decidable (w = "now" ∨ w = "late"))
def argF (cs : List Cell) (d : PyData) : PyData → Option (Er × PyData)
  | .int i => if IsNum i then none else some (.num, .int i)
  | .tuple [.str w, .str c] => if WOk w then (if c ∈ cs.map (·.1) then none else some (.cell, .str c)) else some (.act, d)
  | _ => none
def lenF (g : Str) (dep : Int) (fs : List PyData) : Prop := 3 < fs.length ∨ (0 < fs.length ∧ (g = "error" ∨ dep = 2))
instance (g : Str) (dep : Int) (fs : List PyData) : Decidable (lenF g dep fs) := inferInstanceAs (Decidable (_ ∨ _))
/-- the first fault -/
def flt (names : List Str) (cs : List Cell) : Nat → Int → PyData → Option (Er × PyData)
  | n + 1, dep, .tuple [.str g, .str s, a, .tuple fs] =>
    if GOk g then if s ∈ names then match argF cs (.tuple [.str g, .str s, a, .tuple fs]) a with
      | some r => some r
      | none => if lenF g dep fs then some (.act, .tuple [.str g, .str s, a, .tuple fs]) else fs.findSome? (flt names cs n (dep + 1))
    else some (.step, .str s) else some (.act, .tuple [.str g, .str s, a, .tuple fs])
  | _, _, _ => none
/-- a step of the check: on it goes, or it raises -/
def Chk (A : Ad) (H : Hp) (k : Hp → Prop) (E : XK) (r : Option (Er × PyData)) : Prop := (r = none → ∀ H', Same H H' → k H') ∧ ∀ er e, r = some (er, e) → ∀ v dd H', Same H H' → H' dd = some (.xd [(er.fld, v)]) → Tp H' v e → E (.ref (er.cls A)) (some dd) H'
theorem Chk.mono {A : Ad} {H H1 : Hp} {k : Hp → Prop} {E : XK} {r : Option (Er × PyData)} (h : Chk A H k E r) (s : Same H H1) : Chk A H1 k E r := ⟨fun e H' s' => h.1 e H' (s.trans s'), fun er e q v dd H' s' => h.2 er e q v dd H' (s.trans s')⟩
theorem val_isSome (cs : List Cell) (c : Str) : (valV (cs.map cellK) (Sum.inr c : Key)).isSome = decide (c ∈ cs.map (·.1)) := by
  induction cs with
  | nil => rfl
  | cons x r ih =>
    by_cases h : x.1 = c
    · rw [List.map_cons, valV_pos (by show (Sum.inr x.1 : Key) = Sum.inr c; rw [h])]
      simp [h]
    · rw [List.map_cons, valV_neg (fun z => h (Sum.inr.inj z)), ih]
      simp [Ne.symm h]
theorem BookK.keep {A : Ad} {H H' : Hp} {b : Addr} {names : List Str} {cs : List Cell} (h : BookK A H b names cs) (s : Same H H') : BookK A H' b names cs := by
  obtain ⟨dx, sp, zp, kvs, h1, h2, h3, h4⟩ := h
  exact ⟨dx, sp, zp, kvs, s _ _ h1, s _ _ h2, h3, s _ _ h4⟩
theorem BookK.mono {A : Ad} {H H' : Hp} {p b : Addr} {names : List Str} {cs : List Cell} (h : BookK A H b names cs) (P : Pool H p) (d : Dw p H H') : BookK A H' b names cs := by
  obtain ⟨dx, sp, zp, kvs, h1, h2, h3, h4⟩ := h
  obtain ⟨ys, hp⟩ := pool_at P
  exact ⟨dx, sp, zp, kvs, d.ex _ _ (ne_of h1 hp (by intro z; cases z)) h1, d.ex _ _ (ne_of h2 hp (by intro z; cases z)) h2, h3, d.ex _ _ (ne_of h4 hp (by intro z; cases z)) h4⟩
/-- what is said of a book and its cells -/
structure BkC (A : Ad) (H : Hp) (b : Addr) (names : List Str) (cs : List Cell) : Prop where
  bk : BookK A H b names cs
  ds : Dis cs
  as : Asc cs
  l2 : cs.length ≤ 2
theorem BkC.keep {A : Ad} {H H' : Hp} {b : Addr} {names : List Str} {cs : List Cell} (h : BkC A H b names cs) (s : Same H H') : BkC A H' b names cs := ⟨h.bk.keep s, h.ds, h.as, h.l2⟩

def sp_check_cell (_ : PySem.W.Frag) (A : Ad) : Sp := Sp2 fun x y H Q E => ∃ (c : Str) (b : Addr) (names : List Str) (cs : List Cell), x = .str c ∧ y = .ref b ∧ BkC A H b names cs ∧ Chk A H (Q .non) E (if c ∈ cs.map (·.1) then none else some (.cell, .str c))
def t_check_cell (K : PySem.W.Frag) (A : Ad) (E : XK) : TS :=
  (tIfS (tTest (tOp (oNotInX K) (tVar 0) (tCB (rDictT K) (tCons (tProp A.c_Book (sp_Book_cells K A) [] E0 (tVar 1)) tNil))))
  (tRaiseE A.c_UnknownCell "cell" (fun cls d _ H => E cls d H) (tCons (tVar 0) tNil))
  tNext)
theorem pure_check_cell {K : PySem.W.Frag} {A : Ad} {vs : List V} {H : Hp} {Q : VK} {E : XK} (h : sp_check_cell K A vs H Q E) : t_check_cell K A E { nx := fun _ H' => Q .non H', rt := Q } (start ["cell", "book"] vs) H := by
  obtain ⟨_, _, rfl, c, b, names, cs, rfl, rfl, B, k⟩ := h
  unfold t_check_cell
  refine q_ifS (q_test (q_op (q_var rfl (q_dictC (va_var rfl) B.bk.z B.ds B.as B.l2 fun d H1 S1 hd => q_notInK (k := Sum.inr c) hd ⟨_, rfl, ?_⟩))))
  rw [val_isSome]
  by_cases h : c ∈ cs.map (·.1)
  · rw [if_pos h] at k
    rw [decide_eq_true h]
    exact q_F (q_next (k.1 rfl _ S1))
  · rw [if_neg h] at k
    rw [decide_eq_false h]
    refine q_T (q_raise (q_cons (q_var rfl (q_nil ⟨_, rfl, fun dd hdd => ?_⟩))))
    exact k.2 _ _ rfl (.str c) dd _ (S1.trans (same_new hdd)) upd_same (.str c)
def sp_Book___contains__ (_ : PySem.W.Frag) (A : Ad) : Sp := Sp2 fun x y H Q _ => ∃ (b : Addr) (names : List Str) (cs : List Cell) (s : Str), x = .ref b ∧ y = .str s ∧ BookK A H b names cs ∧ Q (.bl (decide (s ∈ names))) H
def t_Book___contains__ (K : PySem.W.Frag) (A : Ad) : TS :=
  (tRet (tOp (oInX K) (tVar 1) (tFldC A.c_Book "_steps" (tVar 0))))
theorem pure_Book___contains__ {K : PySem.W.Frag} {A : Ad} {vs : List V} {H : Hp} {Q : VK} {E : XK} (h : sp_Book___contains__ K A vs H Q E) : t_Book___contains__ K A { nx := fun _ H' => Q .non H', rt := Q } (start ["self", "name"] vs) H := by
  obtain ⟨_, _, rfl, b, names, cs, s, rfl, rfl, ⟨dx, sp, zp, kvs, h1, h2, h3, h4⟩, k⟩ := h
  unfold t_Book___contains__
  refine q_ret (q_op (q_var rfl (q_fldC (q_var rfl ⟨b, dx, _, _, rfl, h1, bl1, q_inK (k := Sum.inr s) h2 ?_⟩))))
  rw [h3]
  exact k
def sp_check_argument (_ : PySem.W.Frag) (A : Ad) : Sp := Sp2 fun x y H Q E => ∃ (b : Addr) (names : List Str) (cs : List Cell) (g s : Str) (a f : PyData), x = .ref b ∧ Tp H y (.tuple [.str g, .str s, a, f]) ∧ ArgX a ∧ BkC A H b names cs ∧ Chk A H (Q .non) E (argF cs (.tuple [.str g, .str s, a, f]) a)
def t_check_argument (K : PySem.W.Frag) (A : Ad) (E : XK) : TS :=
  (tSeq (tAsg (tOp (oIx K) (tVar 1) (tC (.int 2))) (gName 2))
  (tSeq (tIfS (tTest (tOp oIsN (tVar 2) (tC .non)))
  tRetN
  tNext)
  (tSeq (tIfS (tNot (tB (tCB (cIsi K) (tCons (tVar 2) (tCons (tC (.ty "tuple")) tNil)))))
  (tSeq (tDrop (tCall (sp_check_number K A) [] E (tCons (tVar 2) tNil)))
  tRetN)
  tNext)
  (tSeq (tAsg (tVar 2) (gTup K 2 (gCons (gName 3) (gCons (gName 4) gNil))))
  (tSeq (tIfS (tTest (tOp (oNotIn K) (tVar 3) (tC (.ref A.t_CELL_WORDS))))
  (tRaiseE A.c_BadAction "action" (fun cls d _ H => E cls d H) (tCons (tVar 1) tNil))
  tNext)
  (tDrop (tCall (sp_check_cell K A) [] E (tCons (tVar 4) (tCons (tVar 0) tNil)))))))))
theorem pure_check_argument {K : PySem.W.Frag} {A : Ad} {vs : List V} {H : Hp} {Q : VK} {E : XK} (TX : Caught K A) (h : sp_check_argument K A vs H Q E) : t_check_argument K A E { nx := fun _ H' => Q .non H', rt := Q } (start ["book", "action", "argument", "word", "cell"] vs) H := by
  obtain ⟨_, y, rfl, b, names, cs, g, s, a, f, rfl, hy, hA, B, k⟩ := h
  obtain ⟨p, v1, v2, v3, v4, rfl, hp, r1, r2, r3, r4⟩ := hy.four
  unfold t_check_argument
  refine q_seq (q_asg (va_ixT (va_var rfl) va_c hp rfl _ (q_name ?_)))
  dsimp only
  have tn : "tuple" ∈ tyNames := by simp [tyNames]
  cases hA with
  | non =>
    cases r3
    refine q_seq (q_ifA (an_test (va_isN (va_var rfl))) (fun _ => ?_) (fun e => by cases e))
    exact k.1 rfl _ (Same.refl _)
  | int i =>
    cases r3
    refine q_seq (q_ifA (an_test (va_isN (va_var rfl))) (fun e => by cases e) (fun _ => q_next ?_))
    refine q_seq (q_ifA (an_not (an_tB (va_isi (x := .int i) false (va_var rfl) tn rfl))) (fun _ => ?_) (fun e => by cases e))
    refine q_seq (q_drop (q_call (q_cons (q_var rfl (q_nil (s1 ⟨i, rfl, fun hi => ?_, fun hi d hd => ?_⟩))))))
    · exact k.1 (by simp [argF, hi]) _ (Same.refl _)
    · exact k.2 .num (.int i) (by simp [argF, hi]) (.int i) d _ (same_new hd) upd_same (.int i)
  | pair w c =>
    obtain ⟨q, u1, u2, rfl, hq, e1, e2⟩ := r3.two
    cases e1
    cases e2
    refine q_seq (q_ifA (an_test (va_isN (va_var rfl))) (fun e => by cases e) (fun _ => q_next ?_))
    refine q_seq (q_ifA (an_not (an_tB (va_isi (x := .ref q) true (va_var rfl) tn (Or.inl ⟨⟨_, hq⟩, rfl⟩)))) (fun e => by cases e) (fun _ => q_next ?_))
    refine q_seq (q_asg (q_var rfl ⟨q, _, rfl, SqT.of hq, rfl, _, _, rfl, q_name ⟨_, _, rfl, q_name ⟨rfl, ?_⟩⟩⟩))
    refine q_seq (q_ifS (q_test (q_op (q_var rfl (q_c (Or.inl ⟨A.t_CELL_WORDS, _, rfl, .inr (TX.t_CELL_WORDS _), rfl, rfl, ?_⟩))))))
    have ew : inV (.str w) [.str "now", .str "late"] = decide (WOk w) := by
      by_cases h1 : w = "now"
      · subst h1; decide +kernel
      · by_cases h2 : w = "late"
        · subst h2; decide +kernel
        · rw [decide_eq_false (fun z : WOk w => z.elim h1 h2)]
          simp [inV, eqV, Ne.symm h1, Ne.symm h2]
    rw [ew]
    refine ⟨_, rfl, q_ndec (fun hw => ?_) (fun hw => q_next ?_)⟩
    · refine q_raise (q_cons (q_var rfl (q_nil ⟨_, rfl, fun d hd => ?_⟩)))
      exact k.2 .act _ (by simp [argF, hw]) (.ref p) d _ (same_new hd) upd_same (hy.mono (Tk.new hd))
    · refine q_drop (q_call (q_cons (q_var rfl (q_cons (q_var rfl (q_nil (s2 ⟨c, b, names, cs, rfl, rfl, B, ?_⟩)))))))
      have e : argF cs (.tuple [.str g, .str s, .tuple [.str w, .str c], f]) (.tuple [.str w, .str c]) = if c ∈ cs.map (·.1) then none else some (.cell, .str c) := by simp [argF, hw]
      rw [e] at k
      exact k
def chk_at (A : Ad) (n : Nat) : Sp := Sp3 fun x y z H Q E => ∃ (b : Addr) (names : List Str) (cs : List Cell) (m : Nat) (dep : Nat) (d : PyData), x = .ref b ∧ Tp H y d ∧ AX m d ∧ z = .int (dep : Nat) ∧ dep ≤ 2 ∧ dep + n = 3 ∧ BkC A H b names cs ∧ Chk A H (Q .non) E (flt names cs n dep d)
abbrev reccheck_at_depth (_ : PySem.W.Frag) (A : Ad) (n : Nat) : Sp := chk_at A n
theorem nocheck_at_depth {A : Ad} {vs : List V} {H : Hp} {Q : VK} {E : XK} (h : chk_at A 0 vs H Q E) : False := by
  obtain ⟨_, _, _, _, b, names, cs, m, dep, d, _, _, _, _, h1, h2, _⟩ := h
  omega
abbrev sp_check_at_depth (_ : PySem.W.Frag) (A : Ad) : Sp := chk_at A 3
theorem inG (g : Str) : inV (.str g) [.str "done", .str "error", .str "always"] = decide (GOk g) := by
  by_cases h1 : g = "done"
  · subst h1; decide +kernel
  · by_cases h2 : g = "error"
    · subst h2; decide +kernel
    · by_cases h3 : g = "always"
      · subst h3; decide +kernel
      · rw [decide_eq_false (fun z : GOk g => z.elim h1 fun z => z.elim h2 h3)]
        simp [inV, eqV, Ne.symm h1, Ne.symm h2, Ne.symm h3]
def t_check_at_depth (K : PySem.W.Frag) (A : Ad) (rec : Sp) (E : XK) : TS :=
  (tSeq (tAsg (tVar 1) (gTup K 4 (gCons (gName 4) (gCons (gName 5) (gCons (gName 6) (gCons (gName 7) gNil))))))
  (tSeq (tIfS (tTest (tOp (oNotIn K) (tVar 4) (tC (.ref A.t_GUARDS))))
  (tRaiseE A.c_BadAction "action" (fun cls d _ H => E cls d H) (tCons (tVar 1) tNil))
  tNext)
  (tSeq (tIfS (tTest (tOp (rInO A.c_Book (sp_Book___contains__ K A) E0 true) (tVar 5) (tVar 0)))
  (tRaiseE A.c_UnknownStep "step" (fun cls d _ H => E cls d H) (tCons (tVar 5) tNil))
  tNext)
  (tSeq (tDrop (tCall (sp_check_argument K A) [] E (tCons (tVar 0) (tCons (tVar 1) tNil))))
  (tSeq (tIfS (tAnd (tTruth K (tVar 7)) (tOr (tTest (tOp (oEq K) (tVar 4) (tC (.str "error")))) (tTest (tOp (oEq K) (tVar 2) (tC g_GREATEST_DEPTH)))))
  (tRaiseE A.c_BadAction "action" (fun cls d _ H => E cls d H) (tCons (tVar 1) tNil))
  tNext)
  (tSeq (tIfS (tTest (tOp oGt (tCB (cLen K) (tCons (tVar 7) tNil)) (tC g_MOST_FURTHER)))
  (tRaiseE A.c_BadAction "action" (fun cls d _ H => E cls d H) (tCons (tVar 1) tNil))
  tNext)
  (tFor (iAny K (tVar 7)) (gName 3)
  (tDrop (tCall rec [] E (tCons (tVar 0) (tCons (tVar 3) (tCons (tOp (oAdd K) (tVar 2) (tC (.int 1))) tNil))))))))))))
theorem pure_check_at_depth {K : PySem.W.Frag} {A : Ad} {n : Nat} {vs : List V} {H : Hp} {Q : VK} {E : XK} (TX : Caught K A) (h : chk_at A (n + 1) vs H Q E) : t_check_at_depth K A (chk_at A n) E { nx := fun _ H' => Q .non H', rt := Q } (start ["book", "action", "depth", "part", "guard", "step", "argument", "further"] vs) H := by
  obtain ⟨_, y, _, rfl, b, names, cs, m, dep, d, rfl, hy, hA, rfl, hd2, hdn, B, k⟩ := h
  cases hA with
  | @mk m g s a fs ha hl hf =>
  obtain ⟨p, v1, v2, v3, v4, rfl, hp, r1, r2, r3, r4⟩ := hy.four
  cases r1
  cases r2
  cases r4 with
  | @tup q xs _ hq hql hqs =>
  have hxl : xs.length = fs.length := hqs.len
  unfold t_check_at_depth
  refine q_seq (q_asg (q_var rfl (q_unp4 hp ?_)))
  dsimp only
  refine q_seq (q_ifS (q_test (q_op (q_var rfl (q_c (Or.inl ⟨A.t_GUARDS, _, rfl, .inr (TX.t_GUARDS _), rfl, rfl, ?_⟩))))))
  rw [inG]
  refine ⟨_, rfl, q_ndec (fun hg => ?_) (fun hg => q_next ?_)⟩
  · refine q_raise (q_cons (q_var rfl (q_nil ⟨_, rfl, fun d hd => ?_⟩)))
    exact k.2 .act _ (by simp [flt, hg]) (.ref p) d _ (same_new hd) upd_same (hy.mono (Tk.new hd))
  obtain ⟨dx, sp, zp, kvs, hb1, hb2, hb3, hb4⟩ := id B.bk
  refine q_seq (q_ifS (q_test (q_op (q_var rfl (q_var rfl ⟨b, dx, _, rfl, hb1, _, _, rfl, b, names, cs, s, rfl, rfl, B.bk, _, rfl, _, rfl, ?_⟩)))))
  show if (!decide (s ∈ names)) = true then _ else _
  refine q_ndec (fun hs => ?_) (fun hs => q_next ?_)
  · refine q_raise (q_cons (q_var rfl (q_nil ⟨_, rfl, fun d hd => ?_⟩)))
    exact k.2 .step _ (by simp [flt, hg, hs]) (.str s) d _ (same_new hd) upd_same (.str s)
  have ek : flt names cs (n + 1) dep (.tuple [.str g, .str s, a, .tuple fs]) = match argF cs (.tuple [.str g, .str s, a, .tuple fs]) a with
      | some r => some r
      | none => if lenF g dep fs then some (.act, .tuple [.str g, .str s, a, .tuple fs]) else fs.findSome? (flt names cs n (dep + 1)) := by
    simp [flt, hg, hs]
    all_goals (cases argF cs (.tuple [.str g, .str s, a, .tuple fs]) a <;> rfl)
  rw [ek] at k
  refine q_seq (q_drop (q_call (q_cons (q_var rfl (q_cons (q_var rfl (q_nil (s2 ⟨b, names, cs, g, s, a, .tuple fs, rfl, hy, ha, B, ?_, fun er e he => ?_⟩))))))))
  rotate_left
  · rw [he] at k
    exact k.2 er e rfl
  intro hn H1 S1
  rw [hn] at k
  have k1 := k.mono S1
  have hq1 := S1 _ _ hq
  have hy1 := hy.mono (Tk.same S1)
  have ans : Ans (tAnd (tTruth K (tVar 7)) (tOr (tTest (tOp (oEq K) (tVar 4) (tC (.str "error")))) (tTest (tOp (oEq K) (tVar 2) (tC g_GREATEST_DEPTH))))) [some (.ref b), some (.ref p), some (.int (dep : Nat)), none, some (.str g), some (.str s), some v3, some (.ref q)] H1 (!xs.isEmpty && (decide (V.str g = .str "error") || decide (V.int (dep : Nat) = g_GREATEST_DEPTH))) :=
    an_and (an_truT (va_var rfl) hq1) fun _ => an_or (an_test (va_eqS (va_var rfl) va_c rfl)) fun _ => an_test (va_eqS (va_var rfl) va_c rfl)
  refine q_seq (q_ifA ans (fun e => ?_) (fun e => q_next ?_))
  · rw [Bool.and_eq_true, Bool.or_eq_true] at e
    have hL : lenF g dep fs := by
      refine .inr ⟨?_, e.2.imp (fun z => ?_) fun z => ?_⟩
      · cases fs with
        | nil => cases xs with
          | nil => cases e.1
          | cons _ _ => cases hxl
        | cons _ _ => exact Nat.succ_pos _
      · have := of_decide_eq_true z
        injection this
      · have := of_decide_eq_true z
        injection this
    refine q_raise (q_cons (q_var rfl (q_nil ⟨_, rfl, fun d hd => ?_⟩)))
    exact k1.2 .act _ (by simp [hL]) (.ref p) d _ (same_new hd) upd_same (hy1.mono (Tk.new hd))
  refine q_seq (q_ifS (q_test (q_op (q_cb (q_cons (q_var rfl (q_nil (q_lenT hq1 (q_c (q_gtI ⟨_, rfl, q_dec (fun hl3 => ?_) (fun hl3 => q_next ?_)⟩))))))))))
  · refine q_raise (q_cons (q_var rfl (q_nil ⟨_, rfl, fun d hd => ?_⟩)))
    exact k1.2 .act _ (by rw [if_pos (.inl (by have : (3 : Int) < xs.length := hl3; omega))]) (.ref p) d _ (same_new hd) upd_same (hy1.mono (Tk.new hd))
  have hL : ¬ lenF g dep fs := by
    have h3 : ¬ (3 : Int) < xs.length := hl3
    rintro (z | ⟨z, z2⟩)
    · omega
    · have e1 : (!xs.isEmpty) = true := by
        cases xs with
        | nil => rw [← hxl] at z; cases z
        | cons _ _ => rfl
      rw [e1, Bool.true_and, Bool.or_eq_false_iff] at e
      rcases z2 with z2 | z2
      · exact absurd (congrArg V.str z2) (of_decide_eq_false e.1)
      · exact absurd (congrArg V.int z2) (of_decide_eq_false e.2)
  rw [if_neg hL] at k1
  have hd1 : fs = [] ∨ dep ≤ 1 := by
    rcases Nat.lt_or_ge dep 2 with h | h
    · exact .inr (by omega)
    · left
      cases fs with
      | nil => rfl
      | cons _ _ => exact absurd (.inr ⟨Nat.succ_pos _, .inr (by omega)⟩) hL
  dsimp only
  refine q_for ?_
  refine Or.inr (Or.inl (q_var rfl ⟨q, rfl, ⟨_, SqT.of hq1⟩, ?_⟩))
  refine for_tup (K := K) (a := q) (xs := xs) (fun i σ H' => ∃ v : Option V, σ = [some (.ref b), some (.ref p), some (.int (dep : Nat)), v, some (.str g), some (.str s), some v3, some (.ref q)] ∧ Same H1 H' ∧ ∀ j f, j < i → fs[j]? = some f → flt names cs n (dep + 1) f = none)
    ⟨none, rfl, Same.refl _, fun j f hj => absurd hj (Nat.not_lt_zero _)⟩ (fun i σ H' _ ⟨_, _, S, _⟩ => SqT.of (S _ _ hq1)) ?_ ?_
  · rintro i x σ H' hx ⟨v, rfl, S, hj⟩
    obtain ⟨f, hfi, hfT⟩ := hqs.at hx
    have hfA := hf f (List.mem_of_getElem? hfi)
    have S2 := S1.trans S
    have first : ∀ r, flt names cs n (dep + 1) f = some r → fs.findSome? (flt names cs n (dep + 1)) = some r := fun r hr => by
      rw [List.findSome?_eq_some_iff]
      refine ⟨fs.take i, f, fs.drop (i + 1), ?_, hr, fun y hy => ?_⟩
      · have := List.getElem?_eq_some_iff.mp hfi
        obtain ⟨h1, h2⟩ := this
        rw [← h2]
        simp
      · obtain ⟨j, hj1, hj2⟩ := List.getElem_of_mem hy
        rw [List.length_take] at hj1
        rw [List.getElem_take] at hj2
        exact hj j y (by omega) (by rw [List.getElem?_eq_getElem (by omega), hj2])
    refine q_name (q_drop (q_call (q_cons (q_var rfl (q_cons (q_var rfl (q_cons (q_op (q_var rfl (q_c (q_addI ?_)))))))))))
    refine q_nil (s3 ⟨b, names, cs, m, dep + 1, f, rfl, hfT.mono (Tk.same S2), hfA, rfl, ?_, by omega, B.keep S2, fun hn H3 S3 => ?_, fun er e he v dd H3 S3 hdd hv => ?_⟩)
    · rcases hd1 with rfl | h
      · cases hfi
      · omega
    · refine ⟨_, rfl, S.trans S3, fun j f' hj' hf' => ?_⟩
      rcases Nat.lt_or_ge j i with h | h
      · exact hj j f' h hf'
      · have : j = i := by omega
        subst this
        rw [hfi] at hf'
        cases hf'
        exact hn
    · exact k1.2 er e (first _ he) v dd H3 (S.trans S3) hdd hv
  · rintro σ H' ⟨v, rfl, S, hj⟩
    refine k1.1 ?_ H' S
    rw [List.findSome?_eq_none_iff]
    intro f hfm
    obtain ⟨j, hj1, hj2⟩ := List.getElem_of_mem hfm
    exact hj j f (by omega) (by rw [List.getElem?_eq_getElem hj1, hj2])
def sp_check_action (_ : PySem.W.Frag) (A : Ad) : Sp := Sp2 fun x y H Q E => ∃ (b : Addr) (names : List Str) (cs : List Cell) (m : Nat) (d : PyData), x = .ref b ∧ Tp H y d ∧ AX m d ∧ BkC A H b names cs ∧ Chk A H (Q y) E (flt names cs 3 0 d)
def t_check_action (K : PySem.W.Frag) (A : Ad) (E : XK) : TS :=
  (tSeq (tDrop (tCall (sp_check_at_depth K A) [] E (tCons (tVar 0) (tCons (tVar 1) (tCons (tC (.int 0)) tNil)))))
  (tRet (tVar 1)))
theorem pure_check_action {K : PySem.W.Frag} {A : Ad} {vs : List V} {H : Hp} {Q : VK} {E : XK} (h : sp_check_action K A vs H Q E) : t_check_action K A E { nx := fun _ H' => Q .non H', rt := Q } (start ["book", "action"] vs) H := by
  obtain ⟨_, y, rfl, b, names, cs, m, d, rfl, hy, hA, B, k⟩ := h
  unfold t_check_action
  refine q_seq (q_drop (q_call (q_cons (q_var rfl (q_cons (q_var rfl (q_cons (q_c ?_))))))))
  refine q_nil (s3 ⟨b, names, cs, m, 0, d, rfl, hy, hA, rfl, by decide, rfl, B, fun e H' S => ?_, fun er e he => k.2 er e he⟩)
  exact q_ret (q_var rfl (k.1 e H' S))

/-! ### tuples that are joined and cut -/
theorem q_addTX {K : PySem.W.Frag} {H : Hp} {Q : VK} {a b : Addr} {xs ys : List V} (ha : H a = some (.tup xs)) (hb : H b = some (.tup ys)) (hl : xs.length + ys.length ≤ 1000) (ny : ys ≠ []) (k : ∀ r H', Same H H' → H' r = some (.tup (xs ++ ys)) → Q (.ref r) H') : oAddX K (.ref a) (.ref b) H Q :=
  .inr ⟨a, b, xs, ys, rfl, rfl, SqT.of ha, SqT.of hb, sz1000 (by omega), fun e => by subst e; exact k b H (Same.refl _) hb, fun _ e => absurd e ny, fun _ _ p hp => k p _ (same_new hp) upd_same⟩
theorem q_slA {K : PySem.W.Frag} {H : Hp} {Q : VK} {a : Addr} {xs : List V} {lo hi : Option Int} (ha : H a = some (.tup xs)) (k : ∀ r H', Same H H' → H' r = some (.tup (cutV xs lo hi)) → Q (.ref r) H') : rSlA K (.ref a) lo hi H Q := by
  refine ⟨a, xs, rfl, SqT.of ha, fun e => k a H (Same.refl _) ?_, fun _ p hp => k p _ (same_new hp) upd_same⟩
  have e2 : cutV xs lo hi = xs := by
    unfold cutV
    rw [e.1, e.2]
    simp
  rw [e2]
  exact ha
theorem TpA.drop {H : Hp} : ∀ {xs : List V} {ds : List PyData} (n : Nat), TpA H xs ds → TpA H (xs.drop n) (ds.drop n)
  | _, _, 0, h => h
  | _, _, _ + 1, .nil => .nil
  | _, _, n + 1, .cons _ t => TpA.drop n t
theorem TpA.take {H : Hp} : ∀ {xs : List V} {ds : List PyData} (n : Nat), TpA H xs ds → TpA H (xs.take n) (ds.take n)
  | _, _, 0, _ => .nil
  | _, _, _ + 1, .nil => .nil
  | _, _, n + 1, .cons a t => .cons a (TpA.take n t)
theorem TpA.cut {H : Hp} {xs : List V} {ds : List PyData} (h : TpA H xs ds) (lo hi : Option Int) : ∃ es, TpA H (cutV xs lo hi) es ∧ ∀ f ∈ es, f ∈ ds :=
  ⟨_, (h.drop _).take _, fun _ m => List.mem_of_mem_drop (List.mem_of_mem_take m)⟩
theorem cut_toV (xs : List V) (n : Nat) : (cutV xs none (some (n : Int))).length ≤ n := by
  unfold cutV
  rw [List.length_take, List.length_drop, HT.sIx_none, HT.sIx_nat]
  omega
theorem cut_last3 (xs : List V) : (cutV xs (some (-3)) none).length ≤ 3 := by
  unfold cutV
  rw [List.length_take, List.length_drop, HT.sIx_none]
  have : HT.sIx xs.length 0 (some (-3)) = ((-3 : Int) + xs.length).toNat := rfl
  rw [this]
  omega
/-- the names of the lore's cells, as a new list -/
theorem q_lcCells {K : PySem.W.Frag} {σ : L2.St} {H : Hp} {Q : VK} {te0 : TE} {pl : Addr} {k : Nat} {cs : List Cell} (e : Val te0 σ H (.ref pl)) (hc : CellsL H pl cs) (h2 : cs.length ≤ 2) (hw : ∀ x, wipe ((wipe σ [k]).set k (some x)) [k] = wipe σ [k])
    (hk : ∀ x : V, ((wipe σ [k]).set k (some x))[k]? = some (some x)) (kq : ∀ D, H D = none → Q (.ref D) (upd H D (.lst ((cs.map (·.1)).map V.str)))) : tLc (iAny K te0) (gName k) tYes (tOp (oIx K) (tVar k) (tC (.int 0))) [k] σ H Q := by
  obtain ⟨xs, hx, ht⟩ := hc
  have hl : xs.length = cs.length := by rw [ht.len, List.length_map]
  refine q_lcL (ys := (cs.map (·.1)).map V.str) e hx (by simp [hl]) (by simp; omega) hw (fun i x y H' hx' hy s => ?_) kq
  have hi : i < cs.length := by rw [← hl]; exact (List.getElem?_eq_some_iff.mp hx').1
  obtain ⟨q, hq, hqt⟩ := cell_at ht hi
  rw [hx'] at hq
  cases hq
  have ey : y = .str cs[i].1 := by
    rw [List.map_map, List.getElem?_map, List.getElem?_eq_getElem hi] at hy
    exact (Option.some.inj hy).symm
  subst ey
  exact va_ixT (va_var (hk _)) va_c (s _ _ hqt) rfl
/-! ### how many -/
def bndA : Nat → Nat
  | 0 => 0
  | n + 1 => 1 + 4 * bndA n
def many_at (n : Nat) : Sp := Sp1 fun x H Q _ => ∃ (m : Nat) (d : PyData), m ≤ n ∧ Tp H x d ∧ AX m d ∧ ∀ c : Nat, 0 < c → c ≤ bndA m → Q (.int (c : Nat)) H
abbrev rec_law_many (_ : PySem.W.Frag) (_ : Ad) (n : Nat) : Sp := many_at n
theorem no_law_many {vs : List V} {H : Hp} {Q : VK} {E : XK} (h : many_at 0 vs H Q E) : False := by
  obtain ⟨_, _, m, d, hm, _, hd, _⟩ := h
  obtain rfl : m = 0 := by omega
  cases hd
abbrev sp__law_many (_ : PySem.W.Frag) (_ : Ad) : Sp := many_at 9
def t__law_many (K : PySem.W.Frag) (A : Ad) (rec : Sp) : TS :=
  (tSeq (tAsg (tC (.int 1)) (gName 1))
  (tSeq (tFor (iAny K (tOp (oIx K) (tVar 0) (tC (.int 3)))) (gName 2)
  (tAsg (tOp (oAdd K) (tVar 1) (tCall rec [] E0 (tCons (tVar 2) tNil))) (gName 1)))
  (tRet (tVar 1))))
theorem pure__law_many {K : PySem.W.Frag} {A : Ad} {n : Nat} {vs : List V} {H : Hp} {Q : VK} {E : XK} (h : many_at (n + 1) vs H Q E) : t__law_many K A (many_at n) { nx := fun _ H' => Q .non H', rt := Q } (start ["_law_action_here", "_law_many_here", "_law_inner"] vs) H := by
  obtain ⟨x, rfl, m, d, hmn, hT, hd, k⟩ := h
  cases hd with
  | @mk m g s a fs ha hl hf =>
  obtain ⟨p, v1, v2, v3, v4, rfl, hp, r1, r2, r3, r4⟩ := hT.four
  cases r4 with
  | @tup q xs _ hq hql hqs =>
  have hxl : xs.length = fs.length := hqs.len
  unfold t__law_many
  refine q_seq (q_asg (q_c (q_name ?_)))
  dsimp only
  refine q_seq (q_for ?_)
  refine Or.inr (Or.inl (q_op (q_var rfl (q_c (q_ixT hp rfl ⟨q, rfl, ⟨_, SqT.of hq⟩, ?_⟩)))))
  refine for_tup (K := K) (a := q) (xs := xs) (fun i σ H' => H' = H ∧ ∃ (c : Nat) (v : Option V), σ = [some (.ref p), some (.int (c : Nat)), v] ∧ 0 < c ∧ c ≤ 1 + i * bndA m)
    ⟨rfl, 1, none, rfl, by decide, by omega⟩ (fun i σ H' _ ⟨e, _⟩ => by subst e; exact SqT.of hq) ?_ ?_
  · rintro i x σ H' hx ⟨rfl, c, v, rfl, c0, c1⟩
    obtain ⟨f, hfi, hfT⟩ := hqs.at hx
    have hfA := hf f (List.mem_of_getElem? hfi)
    refine q_name (q_asg (q_op (q_var rfl (q_call (q_cons (q_var rfl (q_nil ?_)))))))
    refine s1 ⟨m, f, by omega, hfT, hfA, fun c2 h0 h1 => q_addI (q_name ⟨rfl, c + c2, _, rfl, by omega, ?_⟩)⟩
    rw [Nat.succ_mul]
    omega
  · rintro σ H' ⟨rfl, c, v, rfl, c0, c1⟩
    have := Nat.mul_le_mul_right (bndA m) (show xs.length ≤ 4 by omega)
    walk_at "rd"
    exact k c c0 (by show c ≤ 1 + 4 * bndA m; omega)
/-! ### the law's own check -/
def LoreS (H : Hp) (lp nl kd pl : Addr) (names : List Str) (cs : List Cell) : Prop := H lp = some (.lst [.ref nl, .ref kd, .ref pl]) ∧ H nl = some (.lst (names.map V.str)) ∧ CellsL H pl cs
theorem LoreS.keep {H H' : Hp} {lp nl kd pl : Addr} {names : List Str} {cs : List Cell} (h : LoreS H lp nl kd pl names cs) (s : Same H H') : LoreS H' lp nl kd pl names cs := by
  obtain ⟨h0, h1, xs, h2, h3⟩ := h
  exact ⟨s _ _ h0, s _ _ h1, xs, s _ _ h2, h3.mono (Tk.same s)⟩
def FV (H : Hp) (v : V) : Option (Er × PyData) → Prop
  | none => v = .non
  | some (er, e) => Tp H v (.tuple [.str er.word, e])
def flt_at (n : Nat) : Sp := Sp3 fun x y z H Q _ => ∃ (lp nl kd pl : Addr) (names : List Str) (cs : List Cell) (m : Nat) (dep : Nat) (d : PyData), x = .ref lp ∧ Tp H y d ∧ AX m d ∧ z = .int (dep : Nat) ∧ dep ≤ 2 ∧ dep + n = 3 ∧ LoreS H lp nl kd pl names cs ∧ cs.length ≤ 2 ∧ ∀ v H', Same H H' → FV H' v (flt names cs n dep d) → Q v H'
abbrev rec_law_fault (_ : PySem.W.Frag) (_ : Ad) (n : Nat) : Sp := flt_at n
theorem no_law_fault {vs : List V} {H : Hp} {Q : VK} {E : XK} (h : flt_at 0 vs H Q E) : False := by
  obtain ⟨_, _, _, _, lp, nl, kd, pl, names, cs, m, dep, d, _, _, _, _, h1, h2, _⟩ := h
  omega
abbrev sp__law_fault (_ : PySem.W.Frag) (_ : Ad) : Sp := flt_at 3
theorem inW (w : Str) : inV (.str w) [.str "now", .str "late"] = decide (WOk w) := by
  by_cases h1 : w = "now"
  · subst h1; decide +kernel
  · by_cases h2 : w = "late"
    · subst h2; decide +kernel
    · rw [decide_eq_false (fun z : WOk w => z.elim h1 h2)]
      simp [inV, eqV, Ne.symm h1, Ne.symm h2]
def t__law_fault (K : PySem.W.Frag) (A : Ad) (rec : Sp) : TS :=
  (tSeq (tAsg (tVar 1) (gTup K 4 (gCons (gName 4) (gCons (gName 5) (gCons (gName 6) (gCons (gName 7) gNil))))))
  (tSeq (tIfS (tTest (tOp (oNotIn K) (tVar 4) (tTup (tCons (tC (.str "done")) (tCons (tC (.str "error")) (tCons (tC (.str "always")) tNil))))))
  (tRet (tTup (tCons (tC (.str "BadAction")) (tCons (tVar 1) tNil))))
  tNext)
  (tSeq (tIfS (tTest (tOp (oNotIn K) (tVar 5) (tOp (oIx K) (tVar 0) (tC (.int 0)))))
  (tRet (tTup (tCons (tC (.str "UnknownStep")) (tCons (tVar 5) tNil))))
  tNext)
  (tSeq (tIfS (tB (tCB (cIsi K) (tCons (tVar 6) (tCons (tC (.ty "tuple")) tNil))))
  (tSeq (tIfS (tTest (tOp (oNotIn K) (tOp (oIx K) (tVar 6) (tC (.int 0))) (tTup (tCons (tC (.str "now")) (tCons (tC (.str "late")) tNil)))))
  (tRet (tTup (tCons (tC (.str "BadAction")) (tCons (tVar 1) tNil))))
  tNext)
  (tIfS (tTest (tOp (oNotIn K) (tOp (oIx K) (tVar 6) (tC (.int 1))) (tLc (iAny K (tOp (oIx K) (tVar 0) (tC (.int 2)))) (gName 9) tYes (tOp (oIx K) (tVar 9) (tC (.int 0))) [9])))
  (tRet (tTup (tCons (tC (.str "UnknownCell")) (tCons (tOp (oIx K) (tVar 6) (tC (.int 1))) tNil))))
  tNext))
  (tIfS (tAnd (tTest (tOp oNotN (tVar 6) (tC .non))) (tNot (tAnd (tTest (tOp oLe (tC (.int 0)) (tVar 6))) (tTest (tOp oLe (tVar 6) (tC (.int 999)))))))
  (tRet (tTup (tCons (tC (.str "BadNumber")) (tCons (tVar 6) tNil))))
  tNext))
  (tSeq (tIfS (tOr (tTest (tOp oGt (tCB (cLen K) (tCons (tVar 7) tNil)) (tC (.int 3)))) (tAnd (tTest (tOp oGt (tCB (cLen K) (tCons (tVar 7) tNil)) (tC (.int 0)))) (tOr (tTest (tOp (oEq K) (tVar 4) (tC (.str "error")))) (tTest (tOp (oEq K) (tVar 2) (tC (.int 2)))))))
  (tRet (tTup (tCons (tC (.str "BadAction")) (tCons (tVar 1) tNil))))
  tNext)
  (tSeq (tFor (iAny K (tVar 7)) (gName 3)
  (tSeq (tAsg (tCall rec [] E0 (tCons (tVar 0) (tCons (tVar 3) (tCons (tOp (oAdd K) (tVar 2) (tC (.int 1))) tNil)))) (gName 8))
  (tIfS (tTest (tOp oNotN (tVar 8) (tC .non)))
  (tRet (tVar 8))
  tNext)))
  (tRet (tC .non))))))))
theorem pure__law_fault {K : PySem.W.Frag} {A : Ad} {n : Nat} {vs : List V} {H : Hp} {Q : VK} {E : XK} (h : flt_at (n + 1) vs H Q E) : t__law_fault K A (flt_at n) { nx := fun _ H' => Q .non H', rt := Q } (start ["_law_lore_here", "_law_action_here", "_law_depth", "_law_inner", "_law_guard", "_law_step", "_law_argument_here", "_law_further", "_law_fault_here", "_law_pair"] vs) H := by
  obtain ⟨_, y, _, rfl, lp, nl, kd, pl, names, cs, m, dep, d, rfl, hy, hA, rfl, hd2, hdn, L, h2, k⟩ := h
  cases hA with
  | @mk m g s a fs ha hl hf =>
  obtain ⟨p, v1, v2, v3, v4, rfl, hp, r1, r2, r3, r4⟩ := hy.four
  cases r1
  cases r2
  cases r4 with
  | @tup q xs _ hq hql hqs =>
  have hxl : xs.length = fs.length := hqs.len
  have two : ∀ (w : Str) (v : V) (e : PyData) (H1 : Hp), Same H H1 → Tp H1 v e → FV H1 v none ∨ True → (∀ v' H', Same H H' → Tp H' v' (.tuple [.str w, e]) → Q v' H') → ([.str w, v] : List V).length ≤ sizeLine ∧ ∀ t, H1 t = none → Q (.ref t) (upd H1 t (.tup [.str w, v])) := fun w v e H1 S1 hv _ kq => ⟨by show 2 ≤ sizeLine; decide, fun t ht => kq _ _ (S1.trans (same_new ht)) (.mk2 upd_same (.str _) (hv.mono (Tk.new ht)))⟩
  unfold t__law_fault
  refine q_seq (q_asg (q_var rfl (q_unp4 hp ?_)))
  dsimp only
  refine q_seq (q_ifS (q_test (q_op (q_var rfl (q_tup (q_cons (q_c (q_cons (q_c (q_cons (q_c (q_nil ⟨by show 3 ≤ sizeLine; decide, fun t1 ht1 => Or.inl ⟨t1, _, rfl, .inr (SqT.of upd_same), rfl, rfl, ?_⟩⟩))))))))))))
  have S1 := same_new (o := .tup [.str "done", .str "error", .str "always"]) ht1
  generalize upd H t1 (.tup [.str "done", .str "error", .str "always"]) = H1 at S1 ⊢
  rw [inG]
  refine ⟨_, rfl, q_ndec (fun hg => ?_) (fun hg => q_next ?_)⟩
  · exact q_ret (q_tup (q_cons (q_c (q_cons (q_var rfl (q_nil (two "BadAction" (.ref p) _ H1 S1 (hy.mono (Tk.same S1)) (.inr trivial) fun v' H' S' hv' => k v' H' S' (by simp [flt, hg]; exact hv'))))))))
  have L1 := L.keep S1
  refine q_seq (q_ifA (an_test (va_notInL (va_var rfl) (va_ixL (va_var rfl) va_c L1.1 rfl) L1.2.1)) (fun hs => ?_) (fun hs => q_next ?_))
  · have hs' : ¬ s ∈ names := fun z => by rw [decide_eq_true z] at hs; cases hs
    exact q_ret (q_tup (q_cons (q_c (q_cons (q_var rfl (q_nil (two "UnknownStep" (.str s) (.str s) H1 S1 (.str s) (.inr trivial) fun v' H' S' hv' => k v' H' S' (by simp [flt, hg, hs']; exact hv'))))))))
  have hs' : s ∈ names := by
    by_cases z : s ∈ names
    · exact z
    · rw [decide_eq_false z] at hs; cases hs
  have ek : flt names cs (n + 1) dep (.tuple [.str g, .str s, a, .tuple fs]) = match argF cs (.tuple [.str g, .str s, a, .tuple fs]) a with
      | some r => some r
      | none => if lenF g dep fs then some (.act, .tuple [.str g, .str s, a, .tuple fs]) else fs.findSome? (flt names cs n (dep + 1)) := by
    simp [flt, hg, hs']
    all_goals (cases argF cs (.tuple [.str g, .str s, a, .tuple fs]) a <;> rfl)
  rw [ek] at k
  clear ek
  have tn : "tuple" ∈ tyNames := by simp [tyNames]
  have rest : ∀ H2, Same H H2 → argF cs (.tuple [.str g, .str s, a, .tuple fs]) a = none → (tSeq (tIfS (tOr (tTest (tOp oGt (tCB (cLen K) (tCons (tVar 7) tNil)) (tC (.int 3)))) (tAnd (tTest (tOp oGt (tCB (cLen K) (tCons (tVar 7) tNil)) (tC (.int 0)))) (tOr (tTest (tOp (oEq K) (tVar 4) (tC (.str "error")))) (tTest (tOp (oEq K) (tVar 2) (tC (.int 2)))))))
  (tRet (tTup (tCons (tC (.str "BadAction")) (tCons (tVar 1) tNil))))
  tNext)
  (tSeq (tFor (iAny K (tVar 7)) (gName 3)
  (tSeq (tAsg (tCall (flt_at n) [] E0 (tCons (tVar 0) (tCons (tVar 3) (tCons (tOp (oAdd K) (tVar 2) (tC (.int 1))) tNil)))) (gName 8))
  (tIfS (tTest (tOp oNotN (tVar 8) (tC .non)))
  (tRet (tVar 8))
  tNext)))
  (tRet (tC .non)))) { nx := fun _ H' => Q .non H', rt := Q } [some (.ref lp), some (.ref p), some (.int (dep : Nat)), none, some (.str g), some (.str s), some v3, some (.ref q), none, none] H2 := by
    intro H2 S2 hn
    rw [hn] at k
    have hq2 := S2 _ _ hq
    have L2' := L.keep S2
    have vl : Val (tCB (cLen K) (tCons (tVar 7) tNil)) [some (.ref lp), some (.ref p), some (.int (dep : Nat)), none, some (.str g), some (.str s), some v3, some (.ref q), none, none] H2 (.int xs.length) := va_lenT (ar := tNil) (va_var rfl) hq2
    refine q_seq (q_ifA (an_or (an_test (va_cmp vl va_c)) fun _ => an_and (an_test (va_cmp vl va_c)) fun _ => an_or (an_test (va_eqS (va_var rfl) va_c rfl)) fun _ => an_test (va_eqS (va_var rfl) va_c rfl)) (fun e => ?_) (fun e => q_next ?_))
    · have hL : lenF g dep fs := by
        rw [Bool.or_eq_true, Bool.and_eq_true, Bool.or_eq_true] at e
        refine e.imp (fun z => ?_) fun z => ⟨?_, z.2.imp (fun z => ?_) fun z => ?_⟩
        · have : (3 : Int) < xs.length := of_decide_eq_true z
          omega
        · have : (0 : Int) < xs.length := of_decide_eq_true z.1
          omega
        · have := of_decide_eq_true z
          injection this
        · have := of_decide_eq_true z
          injection this
      rw [if_pos hL] at k
      exact q_ret (q_tup (q_cons (q_c (q_cons (q_var rfl (q_nil (two "BadAction" (.ref p) _ H2 S2 (hy.mono (Tk.same S2)) (.inr trivial) fun v' H' S' hv' => k v' H' S' hv')))))))
    have hL : ¬ lenF g dep fs := by
      rw [Bool.or_eq_false_iff] at e
      rintro (z | ⟨z, z2⟩)
      · have : ¬ (3 : Int) < xs.length := of_decide_eq_false e.1
        omega
      · have e0 : decide ((0 : Int) < xs.length) = true := decide_eq_true (by omega)
        have e2 := e.2
        rw [show (decide ((0 : Int) < (xs.length : Int))) = true from e0, Bool.true_and, Bool.or_eq_false_iff] at e2
        rcases z2 with z2 | z2
        · exact absurd (congrArg V.str z2) (of_decide_eq_false e2.1)
        · exact absurd (congrArg V.int z2) (of_decide_eq_false e2.2)
    rw [if_neg hL] at k
    have hd1 : fs = [] ∨ dep ≤ 1 := by
      rcases Nat.lt_or_ge dep 2 with h | h
      · exact .inr (by omega)
      · left
        cases fs with
        | nil => rfl
        | cons _ _ => exact absurd (.inr ⟨Nat.succ_pos _, .inr (by omega)⟩) hL
    dsimp only
    refine q_seq (q_for ?_)
    refine Or.inr (Or.inl (q_var rfl ⟨q, rfl, ⟨_, SqT.of hq2⟩, ?_⟩))
    refine for_tup (K := K) (a := q) (xs := xs) (fun i σ H' => ∃ v v8 : Option V, σ = [some (.ref lp), some (.ref p), some (.int (dep : Nat)), v, some (.str g), some (.str s), some v3, some (.ref q), v8, none] ∧ Same H2 H' ∧ ∀ j f, j < i → fs[j]? = some f → flt names cs n (dep + 1) f = none)
      ⟨none, none, rfl, Same.refl _, fun j f hj => absurd hj (Nat.not_lt_zero _)⟩ (fun i σ H' _ ⟨_, _, _, S, _⟩ => SqT.of (S _ _ hq2)) ?_ ?_
    · rintro i x σ H' hx ⟨v, v8, rfl, S, hj⟩
      obtain ⟨f, hfi, hfT⟩ := hqs.at hx
      have hfA := hf f (List.mem_of_getElem? hfi)
      have S3 := S2.trans S
      have first : ∀ r, flt names cs n (dep + 1) f = some r → fs.findSome? (flt names cs n (dep + 1)) = some r := fun r hr => by
        rw [List.findSome?_eq_some_iff]
        refine ⟨fs.take i, f, fs.drop (i + 1), ?_, hr, fun y hy => ?_⟩
        · obtain ⟨h1, h2⟩ := List.getElem?_eq_some_iff.mp hfi
          rw [← h2]
          simp
        · obtain ⟨j, hj1, hj2⟩ := List.getElem_of_mem hy
          rw [List.length_take] at hj1
          rw [List.getElem_take] at hj2
          exact hj j y (by omega) (by rw [List.getElem?_eq_getElem (by omega), hj2])
      refine q_name (q_seq (q_asg (q_call (q_cons (q_var rfl (q_cons (q_var rfl (q_cons (q_op (q_var rfl (q_c (q_addI ?_))))))))))))
      refine q_nil (s3 ⟨lp, nl, kd, pl, names, cs, m, dep + 1, f, rfl, hfT.mono (Tk.same S3), hfA, rfl, ?_, by omega, L.keep S3, h2, fun r H4 S4 hr => q_name ?_⟩)
      · rcases hd1 with rfl | h
        · cases hfi
        · omega
      cases e4 : flt names cs n ((dep + 1 : Nat) : Int) f with
      | none =>
        rw [e4] at hr
        obtain rfl : r = .non := hr
        refine q_ifA (an_test (va_notN (va_var rfl))) (fun e => by cases e) (fun _ => q_next ⟨_, _, rfl, S.trans S4, fun j f' hj' hf' => ?_⟩)
        rcases Nat.lt_or_ge j i with h | h
        · exact hj j f' h hf'
        · have : j = i := by omega
          subst this
          rw [hfi] at hf'
          cases hf'
          exact e4
      | some re =>
        obtain ⟨er, e⟩ := re
        rw [e4] at hr
        have hr' : Tp H4 r (.tuple [.str er.word, e]) := hr
        obtain ⟨t, u1, u2, rfl, _⟩ := hr'.two
        refine q_ifA (an_test (va_notN (va_var rfl))) (fun _ => ?_) (fun e => by cases e)
        refine q_ret (q_var rfl (k _ H4 (S3.trans S4) ?_))
        rw [first _ e4]
        exact hr
    · rintro σ H' ⟨v, v8, rfl, S, hj⟩
      walk_at "rd"
      refine k .non H' (S2.trans S) ?_
      have : fs.findSome? (flt names cs n (dep + 1)) = none := by
        rw [List.findSome?_eq_none_iff]
        intro f hfm
        obtain ⟨j, hj1, hj2⟩ := List.getElem_of_mem hfm
        exact hj j f (by omega) (by rw [List.getElem?_eq_getElem hj1, hj2])
      rw [this]
      rfl
  cases ha with
  | non =>
    cases r3
    refine q_seq (q_ifA (an_tB (va_isi (x := .non) false (va_var rfl) tn rfl)) (fun e => by cases e) (fun _ => ?_))
    refine q_ifA (Ans.to (an_and (b2 := false) (an_test (va_notN (va_var rfl))) (fun e => by cases e)) (b1 := false) rfl) (fun e => by cases e) (fun _ => q_next ?_)
    exact rest H1 S1 rfl
  | int i =>
    cases r3
    refine q_seq (q_ifA (an_tB (va_isi (x := .int i) false (va_var rfl) tn rfl)) (fun e => by cases e) (fun _ => ?_))
    refine q_ifA (an_and (an_test (va_notN (va_var rfl))) fun _ => an_not (an_and (an_test (va_cmp va_c (va_var rfl))) fun _ => an_test (va_cmp (va_var rfl) va_c))) (fun e => ?_) (fun e => q_next ?_)
    · have hn : ¬ IsNum i := fun z => by
        rw [Bool.and_eq_true] at e
        have e2 := e.2
        rw [decide_eq_true z.1, decide_eq_true z.2] at e2
        cases e2
      refine q_ret (q_tup (q_cons (q_c (q_cons (q_var rfl (q_nil (two "BadNumber" (.int i) (.int i) H1 S1 (.int i) (.inr trivial) fun v' H' S' hv' => k v' H' S' ?_)))))))
      simp [argF, hn]
      exact hv'
    · have hn : IsNum i := by
        have e1 : (!decide (V.int i = .non)) = true := rfl
        rw [e1, Bool.true_and] at e
        have e2 : (decide (0 ≤ i) && decide (i ≤ 999)) = true := by
          cases q : (decide (0 ≤ i) && decide (i ≤ 999)) with
          | true => rfl
          | false => rw [q] at e; cases e
        rw [Bool.and_eq_true] at e2
        exact ⟨of_decide_eq_true e2.1, of_decide_eq_true e2.2⟩
      exact rest H1 S1 (by simp [argF, hn])
  | pair w c =>
    obtain ⟨u, u1, u2, rfl, hu, e1, e2⟩ := r3.two
    cases e1
    cases e2
    have hu1 := S1 _ _ hu
    refine q_seq (q_ifA (an_tB (va_isi (x := .ref u) true (va_var rfl) tn (Or.inl ⟨⟨_, hu1⟩, rfl⟩))) (fun _ => ?_) (fun e => by cases e))
    refine q_seq (q_ifS (q_test (q_op (va_ixT (va_var rfl) va_c hu1 rfl _ (q_tup (q_cons (q_c (q_cons (q_c (q_nil ⟨by show 2 ≤ sizeLine; decide, fun t2 ht2 => Or.inl ⟨t2, _, rfl, .inr (SqT.of upd_same), rfl, rfl, ?_⟩⟩))))))))))
    have S2 := S1.trans (same_new (o := .tup [.str "now", .str "late"]) ht2)
    have hu2 := same_new (o := .tup [.str "now", .str "late"]) ht2 _ _ hu1
    generalize upd H1 t2 (.tup [.str "now", .str "late"]) = H2 at S2 hu2 ⊢
    rw [inW]
    refine ⟨_, rfl, q_ndec (fun hw => ?_) (fun hw => q_next ?_)⟩
    · refine q_ret (q_tup (q_cons (q_c (q_cons (q_var rfl (q_nil (two "BadAction" (.ref p) _ H2 S2 (hy.mono (Tk.same S2)) (.inr trivial) fun v' H' S' hv' => k v' H' S' ?_)))))))
      simp [argF, hw]
      exact hv'
    have L2' := L.keep S2
    dsimp only
    refine q_ifS (q_test (q_op (va_ixT (va_var rfl) va_c hu2 rfl _ (q_lcCells (va_ixL (va_var rfl) va_c L2'.1 rfl) L2'.2.2 h2 (fun _ => rfl) (fun _ => rfl) fun D hD => ?_))))
    have S3 := S2.trans (same_new (o := .lst ((cs.map (·.1)).map V.str)) hD)
    have hu3 := same_new (o := .lst ((cs.map (·.1)).map V.str)) hD _ _ hu2
    have hDs : upd H2 D (.lst ((cs.map (·.1)).map V.str)) D = some (.lst ((cs.map (·.1)).map V.str)) := upd_same
    generalize upd H2 D (.lst ((cs.map (·.1)).map V.str)) = H3 at S3 hu3 hDs ⊢
    refine va_notInL (K := K) (σ := []) (ta := tC (.str c)) (tb := tC (.ref D)) va_c va_c hDs _ ⟨_, rfl, ?_⟩
    refine q_ndec (fun hc => ?_) (fun hc => q_next ?_)
    · refine q_ret (q_tup (q_cons (q_c (q_cons (va_ixT (va_var rfl) va_c hu3 rfl _ (q_nil (two "UnknownCell" (.str c) (.str c) H3 S3 (.str c) (.inr trivial) fun v' H' S' hv' => k v' H' S' ?_)))))))
      simp only [argF, if_pos hw, if_neg hc]
      exact hv'
    · exact rest H3 S3 (by simp only [argF, if_pos hw, if_pos hc])

/-! ### actions that are spoilt -/
theorem q_pick2 {K : PySem.W.Frag} {A : Ad} {σ : L2.St} {H : Hp} {Q : VK} {i : Nat} {p gl : Addr} {xs : List V} {n : Int} (P : Pool H p) (hg : H gl = none) (e : σ[i]? = some (some (.ref p))) (hn : (xs.length : Int) = n) (h0 : 0 < xs.length) (h1 : xs.length ≤ 1000) (k : ∀ x H', x ∈ xs → Dw p H H' → Q x H') :
    tCall (sp__law_draw K A) [] E0 (tCons (tVar i) (tCons (tC (.int n)) tNil)) σ (upd H gl (.lst xs)) fun y H2 => oIx K (.ref gl) y H2 Q := by
  have W := Dw.new (o := .lst xs) P hg
  have ngp : gl ≠ p := fun z => by obtain ⟨ys, hp⟩ := pool_at P; rw [z, hp] at hg; cases hg
  refine q_call (q_cons (q_var e (q_cons (q_c (q_nil (s2 ⟨p, n, rfl, rfl, by omega, by omega, W.pool, fun r H' r0 r1 D => ?_⟩))))))
  have hr : r.toNat < xs.length := by omega
  exact q_ixL (D.2.to upd_same ngp) (at_of r0 (List.getElem?_eq_getElem hr)) (k _ _ (List.getElem_mem hr) (W.trans (.of D)))
def sp__law_spoilt (_ : PySem.W.Frag) (_ : Ad) : Sp := Sp4 fun x y z t H Q _ => ∃ (p lp nl kd pl : Addr) (names : List Str) (cs : List Cell) (m : Nat) (d : PyData) (way : Int), x = .ref p ∧ y = .ref lp ∧ Tp H z d ∧ AX (m + 1) d ∧ 3 ≤ m ∧ t = .int way ∧ Pool H p ∧ Lore H p lp nl kd pl names cs ∧ ∀ v d' H', Dw p H H' → Tp H' v d' → AX (m + 1) d' → Q v H'
def t__law_spoilt (K : PySem.W.Frag) (A : Ad) : TS :=
  (tSeq (tAsg (tVar 2) (gTup K 4 (gCons (gName 5) (gCons (gName 6) (gCons (gName 7) (gCons (gName 8) gNil))))))
  (tSeq (tAsg (tTup (tCons (tC (.str "done")) (tCons (tVar 6) (tCons (tC .non) (tCons (tTup tNil) tNil))))) (gName 4))
  (tSeq (tIfS (tTest (tOp (oEq K) (tVar 3) (tC (.int 0))))
  (tRet (tTup (tCons (tOp (oIx K) (tLst (tCons (tC (.str "Done")) (tCons (tC (.str "")) (tCons (tC (.str "never")) (tCons (tC (.str "errors")) (tCons (tC (.str "alway")) tNil)))))) (tCall (sp__law_draw K A) [] E0 (tCons (tVar 0) (tCons (tC (.int 5)) tNil)))) (tCons (tVar 6) (tCons (tVar 7) (tCons (tVar 8) tNil))))))
  tNext)
  (tSeq (tIfS (tTest (tOp (oEq K) (tVar 3) (tC (.int 1))))
  (tRet (tTup (tCons (tVar 5) (tCons (tCall (sp__law_fresh K A) [] E0 (tCons (tVar 0) (tCons (tOp (oIx K) (tVar 1) (tC (.int 0))) tNil))) (tCons (tVar 7) (tCons (tVar 8) tNil))))))
  tNext)
  (tSeq (tIfS (tTest (tOp (oEq K) (tVar 3) (tC (.int 2))))
  (tRet (tTup (tCons (tVar 5) (tCons (tVar 6) (tCons (tOp (oIx K) (tLst (tCons (tC (.int 1000)) (tCons (tUn oNeg (tC (.int 1))) (tCons (tOp (oAddX K) (tC (.int 1000)) (tCall (sp__law_draw K A) [] E0 (tCons (tVar 0) (tCons (tOp oPow (tC (.int 10)) (tC (.int 9))) tNil)))) tNil)))) (tCall (sp__law_draw K A) [] E0 (tCons (tVar 0) (tCons (tC (.int 3)) tNil)))) (tCons (tVar 8) tNil))))))
  tNext)
  (tSeq (tIfS (tTest (tOp (oEq K) (tVar 3) (tC (.int 3))))
  (tRet (tTup (tCons (tVar 5) (tCons (tVar 6) (tCons (tTup (tCons (tOp (oIx K) (tLst (tCons (tC (.str "soon")) (tCons (tC (.str "Now")) (tCons (tC (.str "lat")) (tCons (tC (.str "")) tNil))))) (tCall (sp__law_draw K A) [] E0 (tCons (tVar 0) (tCons (tC (.int 4)) tNil)))) (tCons (tCall (sp__law_name K A) [] E0 (tCons (tVar 0) tNil)) tNil))) (tCons (tVar 8) tNil))))))
  tNext)
  (tSeq (tIfS (tTest (tOp (oEq K) (tVar 3) (tC (.int 4))))
  (tSeq (tAsg (tCall (sp__law_fresh K A) [] E0 (tCons (tVar 0) (tCons (tLc (iAny K (tOp (oIx K) (tVar 1) (tC (.int 2)))) (gName 11) tYes (tOp (oIx K) (tVar 11) (tC (.int 0))) [11]) tNil))) (gName 9))
  (tRet (tTup (tCons (tVar 5) (tCons (tVar 6) (tCons (tTup (tCons (tOp (oIx K) (tLst (tCons (tC (.str "now")) (tCons (tC (.str "late")) tNil))) (tCall (sp__law_draw K A) [] E0 (tCons (tVar 0) (tCons (tC (.int 2)) tNil)))) (tCons (tVar 9) tNil))) (tCons (tVar 8) tNil)))))))
  tNext)
  (tSeq (tIfS (tTest (tOp (oEq K) (tVar 3) (tC (.int 5))))
  (tRet (tTup (tCons (tVar 5) (tCons (tVar 6) (tCons (tVar 7) (tCons (tSl (rSlA K) (tOp (oAddX K) (tVar 8) (tTup (tCons (tVar 4) (tCons (tVar 4) (tCons (tVar 4) (tCons (tVar 4) tNil)))))) tNoPart (tPart (tC (.int 4)))) tNil))))))
  tNext)
  (tSeq (tIfS (tTest (tOp (oEq K) (tVar 3) (tC (.int 6))))
  (tRet (tTup (tCons (tC (.str "error")) (tCons (tVar 6) (tCons (tVar 7) (tCons (tSl (rSlA K) (tOp (oAddX K) (tVar 8) (tTup (tCons (tVar 4) tNil))) tNoPart (tPart (tC (.int 3)))) tNil))))))
  tNext)
  (tSeq (tIfS (tTest (tOp (oEq K) (tVar 3) (tC (.int 7))))
  (tSeq (tAsg (tTup (tCons (tC (.str "always")) (tCons (tVar 6) (tCons (tC (.int 7)) (tCons (tTup (tCons (tVar 4) tNil)) tNil))))) (gName 10))
  (tRet (tTup (tCons (tVar 5) (tCons (tVar 6) (tCons (tVar 7) (tCons (tSl (rSlA K) (tOp (oAddX K) (tVar 8) (tTup (tCons (tTup (tCons (tC (.str "done")) (tCons (tVar 6) (tCons (tC .non) (tCons (tTup (tCons (tVar 10) tNil)) tNil))))) tNil))) (tPart (tUn oNeg (tC (.int 3)))) tNoPart) tNil)))))))
  tNext)
  (tRet (tTup (tCons (tVar 5) (tCons (tVar 6) (tCons (tVar 7) (tCons (tSl (rSlA K) (tOp (oAddX K) (tVar 8) (tTup (tCons (tVar 4) (tCons (tVar 4) (tCons (tVar 4) tNil))))) tNoPart (tPart (tC (.int 3)))) tNil))))))))))))))))
theorem pure__law_spoilt {K : PySem.W.Frag} {A : Ad} {vs : List V} {H : Hp} {Q : VK} {E : XK} (h : sp__law_spoilt K A vs H Q E) : t__law_spoilt K A { nx := fun _ H' => Q .non H', rt := Q } (start ["_law_pool_here", "_law_lore_here", "_law_action_here", "_law_way", "_law_plain", "_law_guard", "_law_step", "_law_argument_here", "_law_further", "_law_cell", "_law_deep", "_law_pair"] vs) H := by
  obtain ⟨_, _, z, _, rfl, p, lp, nl, kd, pl, names, cs, m, d, way, rfl, rfl, hz, hA, hm, rfl, P, L, k⟩ := h
  cases hA with
  | @mk _ g s a fs ha hl hf =>
  obtain ⟨z0, v1, v2, v3, v4, rfl, hp, r1, r2, r3, r4⟩ := hz.four
  cases r1
  cases r2
  cases r4 with
  | @tup q xs _ hq hql hqs =>
  have hxl : xs.length = fs.length := hqs.len
  unfold t__law_spoilt
  refine q_seq (q_asg (q_var rfl (q_unp4 hp ?_)))
  dsimp only
  refine q_seq (q_asg (q_tup (q_cons (q_c (q_cons (q_var rfl (q_cons (q_c (q_cons (q_tup (q_nil ⟨by show 0 ≤ sizeLine; decide, fun t0 ht0 => ?_⟩)))))))))))
  refine q_nil ⟨by show 4 ≤ sizeLine; decide, fun t4 ht4 => q_name ?_⟩
  have S4 := (same_new (o := .tup []) ht0).trans (same_new (o := .tup [.str "done", .str s, .non, .ref t0]) ht4)
  have hpl : Tp (upd (upd H t0 (.tup [])) t4 (.tup [.str "done", .str s, .non, .ref t0])) (.ref t4) (.tuple [.str "done", .str s, .none, .tuple []]) := .mk4 upd_same (.str _) (.str _) .non (.mk0 (same_new (o := .tup [.str "done", .str s, .non, .ref t0]) ht4 _ _ upd_same))
  have D4 := Dw.same P S4
  generalize upd (upd H t0 (.tup [])) t4 (.tup [.str "done", .str s, .non, .ref t0]) = H4 at S4 hpl D4 ⊢
  have P4 := D4.pool
  have L4 := L.mono P D4
  have hv4 := r3.mono (Tk.same S4)
  have hq4 : Tp H4 (.ref q) (.tuple fs) := .tup (S4 _ _ hq) hql (hqs.mono (Tk.same S4))
  have axp : AX m (.tuple [.str "done", .str s, .none, .tuple []]) := AX.le (n := 1) (.mk .non (by decide) fun f hf => by cases hf) (by omega)
  have fin : ∀ (H' : Hp) (g' s' : Str) (va vf : V) (a' : PyData) (fs' : List PyData), Dw p H4 H' → Tp H' va a' → ArgX a' → Tp H' vf (.tuple fs') → fs'.length ≤ 4 → (∀ f ∈ fs', AX m f) → ([.str g', .str s', va, vf] : List V).length ≤ sizeLine ∧ ∀ t, H' t = none → Q (.ref t) (upd H' t (.tup [.str g', .str s', va, vf])) := fun H' g' s' va vf a' fs' W hva hA' hvf hl' hf' =>
    ⟨by show 4 ≤ sizeLine; decide, fun t ht => k _ (.tuple [.str g', .str s', a', .tuple fs']) _ ((D4.trans W).trans (.new W.pool ht)) (.mk4 upd_same (.str _) (.str _) (hva.mono (Tk.new ht)) (hvf.mono (Tk.new ht))) (.mk hA' hl' hf')⟩
  have cutF : ∀ (H5 : Hp) (t5 : Addr) (ys : List V) (ds : List PyData) (lo hi : Option Int), Dw p H4 H5 → H5 t5 = some (.tup ys) → TpA H5 ys ds → ys ≠ [] → ys.length ≤ 4 → (∀ f ∈ ds, AX m f) → (∀ zs : List V, (cutV zs lo hi).length ≤ 4) → ∀ (Q' QX : VK), (∀ x H1, rSlA K x lo hi H1 Q' → QX x H1) →
      (∀ r2 es H7, Dw p H4 H7 → Tp H7 (.ref r2) (.tuple es) → es.length ≤ 4 → (∀ f ∈ es, AX m f) → Q' (.ref r2) H7) → oAddX K (.ref q) (.ref t5) H5 QX := by
    intro H5 t5 ys ds lo hi W ht hy ny hyl hds hcut Q' QX hQX kq
    have tk := W.tk P4
    refine q_addTX (tk _ _ (S4 _ _ hq)) ht (by omega) ny fun r H6 S6 hr6 => hQX _ _ (q_slA hr6 fun r2 H7 S7 hr7 => ?_)
    have W7 := (W.trans (Dw.same W.pool S6)).trans (Dw.same (W.pool.same S6) S7)
    obtain ⟨es, he1, he2⟩ := (TpA.app (((hqs.mono (Tk.same S4)).mono tk).mono (Tk.same S6)) (hy.mono (Tk.same S6))).cut lo hi
    have hlen := hcut (xs ++ ys)
    refine kq r2 es H7 W7 (.tup hr7 (by omega) (he1.mono (Tk.same S7))) (by rw [← he1.len]; exact hlen) fun f hfe => ?_
    rcases List.mem_append.mp (he2 f hfe) with h | h
    · exact hf f h
    · exact hds f h
  dsimp only
  -- 0: a word that is no guard
  refine q_seq (q_ifA (an_test (va_eqS (va_var rfl) va_c rfl)) (fun _ => ?_) (fun _ => q_next ?_))
  · refine q_ret (q_tup (q_cons (q_op (q_lst (q_cons (q_c (q_cons (q_c (q_cons (q_c (q_cons (q_c (q_cons (q_c (q_nil ⟨by show 5 ≤ sizeLine; decide, fun gl hgl => q_pick2 P4 hgl rfl rfl (by simp) (by simp) fun x H' hx W => ?_⟩)))))))))))))))
    obtain ⟨g', rfl⟩ : ∃ g' : Str, x = .str g' := by
      simp only [List.mem_cons, List.not_mem_nil, or_false] at hx
      rcases hx with rfl | rfl | rfl | rfl | rfl <;> exact ⟨_, rfl⟩
    exact q_cons (q_var rfl (q_cons (q_var rfl (q_cons (q_var rfl (q_nil (fin H' g' s v3 (.ref q) a fs W (hv4.mono (W.tk P4)) ha (hq4.mono (W.tk P4)) hl hf)))))))
  dsimp only
  -- 1: a step that the book does not have
  refine q_seq (q_ifA (an_test (va_eqS (va_var rfl) va_c rfl)) (fun _ => ?_) (fun _ => q_next ?_))
  · refine q_ret (q_tup (q_cons (q_var rfl (q_cons (q_call (q_cons (q_var rfl (q_cons (q_op (q_var rfl (q_c (q_ixL L4.h0 rfl (q_nil (s2 ⟨p, nl, names, rfl, rfl, P4, L4.h1, by have := L4.l3; omega, L4.n1, fun s' H' _ _ D => ?_⟩))))))))))))))
    have W := Dw.of D
    exact q_cons (q_var rfl (q_cons (q_var rfl (q_nil (fin H' g s' v3 (.ref q) a fs W (hv4.mono (W.tk P4)) ha (hq4.mono (W.tk P4)) hl hf)))))
  dsimp only
  -- 2: a number out of its bounds
  refine q_seq (q_ifA (an_test (va_eqS (va_var rfl) va_c rfl)) (fun _ => ?_) (fun _ => q_next ?_))
  · refine q_ret (q_tup (q_cons (q_var rfl (q_cons (q_var rfl (q_cons (q_op (q_lst (q_cons (q_c (q_cons (q_un (q_c (q_negI (q_cons (q_op (q_c (q_call (q_cons (q_var rfl (q_cons (q_op (q_c (q_c (q_powI ⟨by decide, by decide, by decide⟩ ?_)))))))))))))))))))))))))
    refine q_nil (s2 ⟨p, _, rfl, rfl, by decide, by decide, P4, fun r H5 r0 r1 D => q_addX (q_addI (q_nil ⟨by show 3 ≤ sizeLine; decide, fun gl hgl => q_pick2 D.1 hgl rfl rfl (by simp) (by simp) fun x H' hx W5 => ?_⟩))⟩)
    have W := (Dw.of D).trans W5
    obtain ⟨i, rfl⟩ : ∃ i : Int, x = .int i := by
      simp only [List.mem_cons, List.not_mem_nil, or_false] at hx
      rcases hx with rfl | rfl | rfl <;> exact ⟨_, rfl⟩
    exact q_cons (q_var rfl (q_nil (fin H' g s (.int i) (.ref q) (.int i) fs W (.int i) (.int i) (hq4.mono (W.tk P4)) hl hf)))
  dsimp only
  -- 3: a word that no cell takes
  refine q_seq (q_ifA (an_test (va_eqS (va_var rfl) va_c rfl)) (fun _ => ?_) (fun _ => q_next ?_))
  · refine q_ret (q_tup (q_cons (q_var rfl (q_cons (q_var rfl (q_cons (q_tup (q_cons (q_op (q_lst (q_cons (q_c (q_cons (q_c (q_cons (q_c (q_cons (q_c (q_nil ⟨by show 4 ≤ sizeLine; decide, fun gl hgl => q_pick2 P4 hgl rfl rfl (by simp) (by simp) fun x H5 hx W5 => ?_⟩)))))))))))))))))))
    obtain ⟨w', rfl⟩ : ∃ w' : Str, x = .str w' := by
      simp only [List.mem_cons, List.not_mem_nil, or_false] at hx
      rcases hx with rfl | rfl | rfl | rfl <;> exact ⟨_, rfl⟩
    refine q_cons (q_call (q_cons (q_var rfl (q_nil (s1 ⟨p, rfl, W5.pool, fun l H6 hl6 D6 => q_nil ⟨by show 2 ≤ sizeLine; decide, fun t5 ht5 => ?_⟩⟩)))))
    have W := (W5.trans (.of D6)).trans (.new (o := .tup [.str w', .str (St8 l)]) D6.1 ht5)
    exact q_cons (q_var rfl (q_nil (fin _ g s (.ref t5) (.ref q) (.tuple [.str w', .str (St8 l)]) fs W (.mk2 upd_same (.str _) (.str _)) (.pair _ _) (hq4.mono (W.tk P4)) hl hf)))
  dsimp only
  -- 4: a cell that the book does not have
  refine q_seq (q_ifA (an_test (va_eqS (va_var rfl) va_c rfl)) (fun _ => ?_) (fun _ => q_next ?_))
  · refine q_seq (q_asg (q_call (q_cons (q_var rfl (q_cons (q_lcCells (va_ixL (va_var rfl) va_c L4.h0 rfl) L4.h2 L4.l2 (fun _ => rfl) (fun _ => rfl) fun D hD => ?_))))))
    have W5 := Dw.new (o := .lst ((cs.map (·.1)).map V.str)) P4 hD
    have nDp : D ≠ p := fun z => by obtain ⟨ys, hp⟩ := pool_at P4; rw [z, hp] at hD; cases hD
    refine q_nil (s2 ⟨p, D, cs.map (·.1), rfl, rfl, W5.pool, upd_same, by rw [List.length_map]; have := L4.l2; omega, nDp, fun c' H6 _ _ D6 => q_name ?_⟩)
    have W6 := W5.trans (.of D6)
    dsimp only
    refine q_ret (q_tup (q_cons (q_var rfl (q_cons (q_var rfl (q_cons (q_tup (q_cons (q_op (q_lst (q_cons (q_c (q_cons (q_c (q_nil ⟨by show 2 ≤ sizeLine; decide, fun gl hgl => q_pick2 W6.pool hgl rfl rfl (by simp) (by simp) fun x H7 hx W7 => ?_⟩)))))))))))))))
    obtain ⟨w', rfl⟩ : ∃ w' : Str, x = .str w' := by
      simp only [List.mem_cons, List.not_mem_nil, or_false] at hx
      rcases hx with rfl | rfl <;> exact ⟨_, rfl⟩
    refine q_cons (q_var rfl (q_nil ⟨by show 2 ≤ sizeLine; decide, fun t5 ht5 => ?_⟩))
    have W := (W6.trans W7).trans (.new (o := .tup [.str w', .str c']) W7.pool ht5)
    exact q_cons (q_var rfl (q_nil (fin _ g s (.ref t5) (.ref q) (.tuple [.str w', .str c']) fs W (.mk2 upd_same (.str _) (.str _)) (.pair _ _) (hq4.mono (W.tk P4)) hl hf)))
  dsimp only
  -- 5: too many
  refine q_seq (q_ifA (an_test (va_eqS (va_var rfl) va_c rfl)) (fun _ => ?_) (fun _ => q_next ?_))
  · refine q_ret (q_tup (q_cons (q_var rfl (q_cons (q_var rfl (q_cons (q_var rfl (q_cons (q_sl (q_op (q_var rfl (q_tup (q_cons (q_var rfl (q_cons (q_var rfl (q_cons (q_var rfl (q_cons (q_var rfl (q_nil ⟨by show 4 ≤ sizeLine; decide, fun t5 ht5 => ?_⟩)))))))))))))))))))))
    have kt := Tk.new (o := .tup [.ref t4, .ref t4, .ref t4, .ref t4]) ht5
    have hp5 := hpl.mono kt
    refine cutF _ t5 _ [_, _, _, _] none (some 4) (.new P4 ht5) upd_same (.cons hp5 (.cons hp5 (.cons hp5 (.cons hp5 .nil)))) (by simp) (by simp) (fun f hf => ?_) (fun zs => cut_toV zs 4) _ _ (fun x H1 h => q_noPart (q_part (q_c (q_int h)))) fun r2 es H7 W hT hle hfe => q_nil (fin H7 g s v3 (.ref r2) a es W (hv4.mono (W.tk P4)) ha hT hle hfe)
    simp only [List.mem_cons, List.not_mem_nil, or_false] at hf
    rcases hf with rfl | rfl | rfl | rfl <;> exact axp
  dsimp only
  -- 6: some behind an error
  refine q_seq (q_ifA (an_test (va_eqS (va_var rfl) va_c rfl)) (fun _ => ?_) (fun _ => q_next ?_))
  · refine q_ret (q_tup (q_cons (q_c (q_cons (q_var rfl (q_cons (q_var rfl (q_cons (q_sl (q_op (q_var rfl (q_tup (q_cons (q_var rfl (q_nil ⟨by show 1 ≤ sizeLine; decide, fun t5 ht5 => ?_⟩)))))))))))))))
    have kt := Tk.new (o := .tup [.ref t4]) ht5
    refine cutF _ t5 _ [_] none (some 3) (.new P4 ht5) upd_same (.cons (hpl.mono kt) .nil) (by simp) (by simp) (fun f hf => ?_) (fun zs => Nat.le_succ_of_le (cut_toV zs 3)) _ _ (fun x H1 h => q_noPart (q_part (q_c (q_int h)))) fun r2 es H7 W hT hle hfe => q_nil (fin H7 "error" s v3 (.ref r2) a es W (hv4.mono (W.tk P4)) ha hT hle hfe)
    rw [List.mem_singleton.mp hf]
    exact axp
  dsimp only
  -- 7: too deep
  refine q_seq (q_ifA (an_test (va_eqS (va_var rfl) va_c rfl)) (fun _ => ?_) (fun _ => q_next ?_))
  · refine q_seq (q_asg (q_tup (q_cons (q_c (q_cons (q_var rfl (q_cons (q_c (q_cons (q_tup (q_cons (q_var rfl (q_nil ⟨by show 1 ≤ sizeLine; decide, fun u1 hu1 => ?_⟩)))))))))))))
    refine q_nil ⟨by show 4 ≤ sizeLine; decide, fun u2 hu2 => q_name ?_⟩
    have k1 := Tk.new (o := .tup [.ref t4]) hu1
    have k2 := Tk.new (o := .tup [.str "always", .str s, .int 7, .ref u1]) hu2
    have W2 := (Dw.new (o := .tup [.ref t4]) P4 hu1).trans (Dw.new (o := .tup [.str "always", .str s, .int 7, .ref u1]) (P4.new hu1) hu2)
    have hdeep : Tp (upd (upd H4 u1 (.tup [.ref t4])) u2 (.tup [.str "always", .str s, .int 7, .ref u1])) (.ref u2) (.tuple [.str "always", .str s, .int 7, .tuple [.tuple [.str "done", .str s, .none, .tuple []]]]) :=
      .mk4 upd_same (.str _) (.str _) (.int 7) (.tup (k2 _ _ upd_same) (by simp) (.cons ((hpl.mono k1).mono k2) .nil))
    generalize upd (upd H4 u1 (.tup [.ref t4])) u2 (.tup [.str "always", .str s, .int 7, .ref u1]) = H5 at W2 hdeep ⊢
    dsimp only
    refine q_ret (q_tup (q_cons (q_var rfl (q_cons (q_var rfl (q_cons (q_var rfl (q_cons (q_sl (q_op (q_var rfl (q_tup (q_cons (q_tup (q_cons (q_c (q_cons (q_var rfl (q_cons (q_c (q_cons (q_tup (q_cons (q_var rfl (q_nil ⟨by show 1 ≤ sizeLine; decide, fun u3 hu3 => ?_⟩)))))))))))))))))))))))))
    refine q_nil ⟨by show 4 ≤ sizeLine; decide, fun u4 hu4 => q_nil ⟨by show 1 ≤ sizeLine; decide, fun u5 hu5 => ?_⟩⟩
    have k3 := Tk.new (o := .tup [.ref u2]) hu3
    have k4 := Tk.new (o := .tup [.str "done", .str s, .non, .ref u3]) hu4
    have k5 := Tk.new (o := .tup [.ref u4]) hu5
    have W5 := ((W2.trans (.new (o := .tup [.ref u2]) W2.pool hu3)).trans (.new (o := .tup [.str "done", .str s, .non, .ref u3]) (W2.pool.new hu3) hu4)).trans (.new (o := .tup [.ref u4]) ((W2.pool.new hu3).new hu4) hu5)
    have hdone : Tp (upd (upd H5 u3 (.tup [.ref u2])) u4 (.tup [.str "done", .str s, .non, .ref u3])) (.ref u4) (.tuple [.str "done", .str s, .none, .tuple [.tuple [.str "always", .str s, .int 7, .tuple [.tuple [.str "done", .str s, .none, .tuple []]]]]]) :=
      .mk4 upd_same (.str _) (.str _) .non (.tup (k4 _ _ upd_same) (by simp) (.cons ((hdeep.mono k3).mono k4) .nil))
    refine cutF _ u5 _ [_] (some (-3)) none W5 upd_same (.cons (hdone.mono k5) .nil) (by simp) (by simp) (fun f hf => ?_) (fun zs => Nat.le_succ_of_le (cut_last3 zs)) _ _ (fun x H1 h => q_part (q_un (q_c (q_negI (q_int (q_noPart h)))))) fun r2 es H7 W hT hle hfe => q_nil (fin H7 g s v3 (.ref r2) a es W (hv4.mono (W.tk P4)) ha hT hle hfe)
    rw [List.mem_singleton.mp hf]
    refine AX.le (n := 3) (.mk .non (by simp) fun f hf => ?_) hm
    rw [List.mem_singleton.mp hf]
    refine .mk (.int 7) (by simp) fun f hf => ?_
    rw [List.mem_singleton.mp hf]
    exact .mk .non (by simp) fun f hf => by cases hf
  dsimp only
  refine q_ret (q_tup (q_cons (q_var rfl (q_cons (q_var rfl (q_cons (q_var rfl (q_cons (q_sl (q_op (q_var rfl (q_tup (q_cons (q_var rfl (q_cons (q_var rfl (q_cons (q_var rfl (q_nil ⟨by show 3 ≤ sizeLine; decide, fun t5 ht5 => ?_⟩)))))))))))))))))))
  have kt := Tk.new (o := .tup [.ref t4, .ref t4, .ref t4]) ht5
  have hp5 := hpl.mono kt
  refine cutF _ t5 _ [_, _, _] none (some 3) (.new P4 ht5) upd_same (.cons hp5 (.cons hp5 (.cons hp5 .nil))) (by simp) (by simp) (fun f hf => ?_) (fun zs => Nat.le_succ_of_le (cut_toV zs 3)) _ _ (fun x H1 h => q_noPart (q_part (q_c (q_int h)))) fun r2 es H7 W hT hle hfe => q_nil (fin H7 g s v3 (.ref r2) a es W (hv4.mono (W.tk P4)) ha hT hle hfe)
  simp only [List.mem_cons, List.not_mem_nil, or_false] at hf
  rcases hf with rfl | rfl | rfl <;> exact axp

/-! ### an action is spoilt at a spot -/
structure Dq (p q : Addr) (H H' : Hp) : Prop where
  pool : Pool H' p
  ex : ∀ a o, a ≠ p → a ≠ q → H a = some o → H' a = some o
  hd : Hd p H H'
  sp : ∃ k : Int, H' q = some (.lst [.int k])
theorem Dq.trans {p q : Addr} {H H1 H2 : Hp} (a : Dq p q H H1) (b : Dq p q H1 H2) : Dq p q H H2 := ⟨b.pool, fun x o h1 h2 e => b.ex x o h1 h2 (a.ex x o h1 h2 e), a.hd.trans b.hd, b.sp⟩
theorem Dq.dw {p q : Addr} {H H' : Hp} {k : Int} (n : q ≠ p) (hq : H q = some (.lst [.int k])) (d : Dw p H H') : Dq p q H H' := ⟨d.pool, fun a o h1 _ e => d.ex a o h1 e, d.hd, k, d.ex _ _ n hq⟩
theorem Dq.tk {p q : Addr} {H H' : Hp} {k : Int} (P : Pool H p) (hq : H q = some (.lst [.int k])) (d : Dq p q H H') : Tk H H' := fun a xs h => by
  obtain ⟨ys, hp⟩ := pool_at P
  exact d.ex a _ (ne_of h hp (by intro z; cases z)) (ne_of h hq (by intro z; cases z)) h
structure Off3 (q lp nl pl : Addr) : Prop where
  a : lp ≠ q
  b : nl ≠ q
  c : pl ≠ q
theorem Lore.dq {H H' : Hp} {p q lp nl kd pl : Addr} {names : List Str} {cs : List Cell} {k : Int} (L : Lore H p lp nl kd pl names cs) (O : Off3 q lp nl pl) (P : Pool H p) (hq : H q = some (.lst [.int k])) (d : Dq p q H H') : Lore H' p lp nl kd pl names cs := by
  obtain ⟨xs, hx, ht⟩ := L.h2
  exact ⟨d.ex _ _ L.n0 O.a L.h0, d.ex _ _ L.n1 O.b L.h1, ⟨xs, d.ex _ _ L.n2 O.c hx, ht.mono (d.tk P hq)⟩, L.n0, L.n1, L.n2, L.l1, L.l3, L.l2⟩
def tch_at (n : Nat) : Sp := Sp5 fun x y z t u H Q _ => ∃ (p lp nl kd pl q : Addr) (names : List Str) (cs : List Cell) (m : Nat) (d : PyData) (way k : Int), m ≤ n ∧ x = .ref p ∧ y = .ref lp ∧ Tp H z d ∧ AX m d ∧ t = .ref q ∧ u = .int way ∧ Pool H p ∧ Lore H p lp nl kd pl names cs ∧ Off3 q lp nl pl ∧ H q = some (.lst [.int k]) ∧ q ≠ p ∧ POff H p q ∧
  ∀ v d' H', Dq p q H H' → Tp H' v d' → AX (m + 3) d' → Q v H'
abbrev rec_law_touched (_ : PySem.W.Frag) (_ : Ad) (n : Nat) : Sp := tch_at n
theorem no_law_touched {vs : List V} {H : Hp} {Q : VK} {E : XK} (h : tch_at 0 vs H Q E) : False := by
  obtain ⟨_, _, _, _, _, _, p, lp, nl, kd, pl, q, names, cs, m, d, way, k, hm, _, _, _, hd, _⟩ := h
  obtain rfl : m = 0 := by omega
  cases hd
abbrev sp__law_touched (_ : PySem.W.Frag) (_ : Ad) : Sp := tch_at 6
def t__law_touched (K : PySem.W.Frag) (A : Ad) (rec : Sp) : TS :=
  (tSeq (tAsg (tOp (oIx K) (tVar 3) (tC (.int 0))) (gName 5))
  (tSeq (tAsg (tOp oSub (tOp (oIx K) (tVar 3) (tC (.int 0))) (tC (.int 1))) (gSub (tVar 3) (tC (.int 0)) rSetL))
  (tSeq (tAsg (tTup tNil) (gName 6))
  (tSeq (tFor (iAny K (tOp (oIx K) (tVar 2) (tC (.int 3)))) (gName 7)
  (tAsg (tOp (oAddX K) (tVar 6) (tTup (tCons (tCall rec [] E0 (tCons (tVar 0) (tCons (tVar 1) (tCons (tVar 7) (tCons (tVar 3) (tCons (tVar 4) tNil)))))) tNil))) (gName 6)))
  (tSeq (tAsg (tTup (tCons (tOp (oIx K) (tVar 2) (tC (.int 0))) (tCons (tOp (oIx K) (tVar 2) (tC (.int 1))) (tCons (tOp (oIx K) (tVar 2) (tC (.int 2))) (tCons (tVar 6) tNil))))) (gName 2))
  (tSeq (tIfS (tTest (tOp (oEq K) (tVar 5) (tC (.int 0))))
  (tRet (tCall (sp__law_spoilt K A) [] E0 (tCons (tVar 0) (tCons (tVar 1) (tCons (tVar 2) (tCons (tVar 4) tNil))))))
  tNext)
  (tRet (tVar 2))))))))
theorem pure__law_touched {K : PySem.W.Frag} {A : Ad} {n : Nat} {vs : List V} {H : Hp} {Q : VK} {E : XK} (h : tch_at (n + 1) vs H Q E) : t__law_touched K A (tch_at n) { nx := fun _ H' => Q .non H', rt := Q } (start ["_law_pool_here", "_law_lore_here", "_law_action_here", "_law_spot", "_law_way", "_law_mine", "_law_further", "_law_inner"] vs) H := by
  obtain ⟨_, _, z, _, _, rfl, p, lp, nl, kd, pl, q, names, cs, m, d, way, k, hmn, rfl, rfl, hz, hA, rfl, rfl, P, L, O, hq, nqp, off, kq⟩ := h
  cases hA with
  | @mk m g s a fs ha hl hf =>
  obtain ⟨z0, v1, v2, v3, v4, rfl, hp, r1, r2, r3, r4⟩ := hz.four
  cases r1
  cases r2
  cases r4 with
  | @tup fq xs _ hfq hfl hfs =>
  have hxl : xs.length = fs.length := hfs.len
  unfold t__law_touched
  refine q_seq (q_asg (va_ixL (va_var rfl) va_c hq rfl _ (q_name ?_)))
  dsimp only
  refine q_seq (q_asg (q_op (va_ixL (va_var rfl) va_c hq rfl _ (q_c (q_subI (q_gsub (q_var rfl (q_c (q_setL hq (j := 0) (by simp [ixN]) ?_)))))))))
  have D1 : Dq p q H (upd H q (.lst [.int (k - 1)])) := ⟨P.at_off off nqp, fun b o _ n e => by rw [upd_ne n]; exact e, Hd.off nqp, k - 1, upd_same⟩
  have h1 : upd H q (.lst [.int (k - 1)]) q = some (.lst [.int (k - 1)]) := upd_same
  have off1 : POff (upd H q (.lst [.int (k - 1)])) p q := off.upd nqp
  show _
  generalize hH1 : upd H q (.lst [.int (k - 1)]) = H1 at D1 h1 off1
  have hset : upd H q (.lst (([.int k] : List V).set 0 (.int (k - 1)))) = H1 := hH1
  rw [hset]
  have T1 := D1.tk P hq
  dsimp only
  refine q_seq (q_asg (q_tup (q_nil ⟨by show 0 ≤ sizeLine; decide, fun t0 ht0 => q_name ?_⟩)))
  have n0q : t0 ≠ q := fun z => by rw [z, h1] at ht0; cases ht0
  have D2 := D1.trans (.dw nqp h1 (.new (o := .tup []) D1.pool ht0))
  have T2 : Tk H1 (upd H1 t0 (.tup [])) := Tk.new ht0
  have h2 : upd H1 t0 (.tup []) q = some (.lst [.int (k - 1)]) := by rw [upd_ne (Ne.symm n0q)]; exact h1
  have e0 : upd H1 t0 (.tup []) t0 = some (.tup []) := upd_same
  have off2 : POff (upd H1 t0 (.tup [])) p q := off1.upd (fun z => by obtain ⟨ys, e⟩ := pool_at D1.pool; rw [z, e] at ht0; cases ht0)
  generalize upd H1 t0 (.tup []) = H2 at D2 T2 h2 e0 off2 ⊢
  have T02 := T1.trans T2
  have hp2 := T02 _ _ hp
  have hfq2 := T02 _ _ hfq
  dsimp only
  refine q_seq (q_for ?_)
  refine Or.inr (Or.inl (q_op (q_var rfl (q_c (q_ixT hp2 rfl ⟨fq, rfl, ⟨_, SqT.of hfq2⟩, ?_⟩)))))
  refine for_tup (K := K) (a := fq) (xs := xs) (fun i σ H' => ∃ (r : Addr) (ys : List V) (es : List PyData) (v7 : Option V), σ = [some (.ref p), some (.ref lp), some (.ref z0), some (.ref q), some (.int way), some (.int k), some (.ref r), v7] ∧ Dq p q H2 H' ∧ POff H' p q ∧ H' r = some (.tup ys) ∧ TpA H' ys es ∧ es.length = i ∧ ∀ f ∈ es, AX (m + 3) f)
    ⟨t0, [], [], none, rfl, ⟨D2.pool, fun _ _ _ _ e => e, .refl, _, h2⟩, off2, e0, .nil, rfl, fun f hf => by cases hf⟩ (fun i σ H' _ ⟨_, _, _, _, _, W, _⟩ => SqT.of (W.tk D2.pool h2 _ _ hfq2)) ?_ ?_
  · rintro i x σ H' hx ⟨r, ys, es, v7, rfl, W, off', hr, hys, hel, hes⟩
    obtain ⟨f, hfi, hfT⟩ := hfs.at hx
    have hfA := hf f (List.mem_of_getElem? hfi)
    have hi : i < fs.length := (List.getElem?_eq_some_iff.mp hfi).1
    have TW := W.tk D2.pool h2
    obtain ⟨k', hq'⟩ := W.sp
    refine q_name (q_asg (q_op (q_var rfl (q_tup (q_cons (q_call (q_cons (q_var rfl (q_cons (q_var rfl (q_cons (q_var rfl (q_cons (q_var rfl (q_cons (q_var rfl ?_))))))))))))))))
    refine q_nil (s5 ⟨p, lp, nl, kd, pl, q, names, cs, m, f, way, k', by omega, rfl, rfl, hfT.mono (T02.trans TW), hfA, rfl, rfl, W.pool, L.dq O P hq (D2.trans W), O, hq', nqp, off', fun v d' H4 W4 hv hd' => q_nil ⟨by show 1 ≤ sizeLine; decide, fun t5 ht5 => ?_⟩⟩)
    obtain ⟨k4, hq4⟩ := W4.sp
    have T4 := W4.tk W.pool hq'
    have N5 := Dw.new (o := .tup [v]) W4.pool ht5
    have n5q : t5 ≠ q := fun z => by rw [z, hq4] at ht5; cases ht5
    have W5 := (W.trans W4).trans (.dw nqp hq4 N5)
    have k5 := Tk.new (o := .tup [v]) ht5
    refine q_addTX (k5 _ _ (T4 _ _ hr)) upd_same (by have := hys.len; simp; omega) (by simp) fun r2 H6 S6 hr6 => q_name ⟨r2, ys ++ [v], es ++ [d'], _, rfl, W5.trans (.dw nqp (N5.ex _ _ nqp hq4) (Dw.same W5.pool S6)), ?_, hr6, TpA.app (((hys.mono T4).mono k5).mono (Tk.same S6)) (.cons ((hv.mono k5).mono (Tk.same S6)) .nil), by rw [List.length_append, hel]; rfl, fun f hf' => ?_⟩
    · have o4 : POff H4 p q := fun l rr e => by
        obtain ⟨l0, cs0, a0, b0, c0, d0, hp0, _⟩ := W.pool
        obtain ⟨r', h'⟩ := W4.hd _ _ hp0
        rw [h'] at e
        cases e
        exact off' _ _ hp0
      have o5 := o4.dw W4.pool N5
      exact o5.dw N5.pool (Dw.same N5.pool S6)
    · rcases List.mem_append.mp hf' with h | h
      · exact hes f h
      · rw [List.mem_singleton.mp h]; exact hd'
  · rintro σ H' ⟨r, ys, es, v7, rfl, W, off', hr, hys, hel, hes⟩
    have TW := W.tk D2.pool h2
    obtain ⟨k', hq'⟩ := W.sp
    have hp' := TW _ _ hp2
    have W0 := D2.trans W
    dsimp only
    refine q_seq (q_asg (q_tup (q_cons (va_ixT (va_var rfl) va_c hp' rfl _ (q_cons (va_ixT (va_var rfl) va_c hp' rfl _ (q_cons (va_ixT (va_var rfl) va_c hp' rfl _ (q_cons (q_var rfl (q_nil ⟨by show 4 ≤ sizeLine; decide, fun t6 ht6 => q_name ?_⟩)))))))))))
    have N6 := Dw.new (o := .tup [.str g, .str s, v3, .ref r]) W.pool ht6
    have k6 := Tk.new (o := .tup [.str g, .str s, v3, .ref r]) ht6
    have T6 := (T02.trans TW).trans k6
    have W6 := W0.trans (.dw nqp hq' N6)
    have h6 : Tp (upd H' t6 (.tup [.str g, .str s, v3, .ref r])) (.ref t6) (.tuple [.str g, .str s, a, .tuple es]) := .mk4 upd_same (.str _) (.str _) (r3.mono T6) (.tup (k6 _ _ hr) (by have := hys.len; omega) (hys.mono k6))
    have hA6 : AX (m + 3 + 1) (.tuple [.str g, .str s, a, .tuple es]) := .mk ha (by omega) hes
    have hq6 := N6.ex _ _ nqp hq'
    have L6 := L.dq O P hq W6
    generalize upd H' t6 (.tup [.str g, .str s, v3, .ref r]) = H6 at N6 h6 hq6 W6 L6 ⊢
    have e3 : m + 1 + 3 = m + 3 + 1 := by omega
    rw [e3] at kq
    dsimp only
    refine q_seq (q_ifA (an_test (va_eqS (va_var rfl) va_c rfl)) (fun _ => ?_) (fun _ => q_next ?_))
    · refine q_ret (q_call (q_cons (q_var rfl (q_cons (q_var rfl (q_cons (q_var rfl (q_cons (q_var rfl ?_)))))))))
      exact q_nil (s4 ⟨p, lp, nl, kd, pl, names, cs, m + 3, _, way, rfl, rfl, h6, hA6, by omega, rfl, N6.pool, L6, fun v d' H7 W7 hv hd' => kq v d' H7 (W6.trans (.dw nqp hq6 W7)) hv hd'⟩)
    · dsimp only
      exact q_ret (q_var rfl (kq _ _ H6 W6 h6 hA6))
/-! ### the error that is caught -/
def sp__law_single (_ : PySem.W.Frag) (A : Ad) : SpX := fun a cls d => Sp1 fun x H Q _ => x = .ref a ∧ ∃ er dd fs, cls = .ref (Er.cls A er) ∧ d = some dd ∧ H dd = some (.xd fs) ∧ Q (.bl true) H
def t__law_single (K : PySem.W.Frag) (A : Ad) (a : Addr) (cls : Value) (d : Option Addr) : TS :=
  (tSeq (tAsg (tOp (oAdd K) (tOp (oAdd K) (tCB cInt (tCons (tCB (rIsX K a cls d) (tCons (tVar 0) (tCons (tC (.ref A.c_BadAction)) tNil))) tNil)) (tCB cInt (tCons (tCB (rIsX K a cls d) (tCons (tVar 0) (tCons (tC (.ref A.c_BadKind)) tNil))) tNil))) (tCB cInt (tCons (tCB (rIsX K a cls d) (tCons (tVar 0) (tCons (tC (.ref A.c_BadName)) tNil))) tNil))) (gName 1))
  (tSeq (tAsg (tOp (oAdd K) (tOp (oAdd K) (tVar 1) (tCB cInt (tCons (tCB (rIsX K a cls d) (tCons (tVar 0) (tCons (tC (.ref A.c_BadNumber)) tNil))) tNil))) (tCB cInt (tCons (tCB (rIsX K a cls d) (tCons (tVar 0) (tCons (tC (.ref A.c_BadStatement)) tNil))) tNil))) (gName 1))
  (tSeq (tAsg (tOp (oAdd K) (tOp (oAdd K) (tVar 1) (tCB cInt (tCons (tCB (rIsX K a cls d) (tCons (tVar 0) (tCons (tC (.ref A.c_UnknownCell)) tNil))) tNil))) (tCB cInt (tCons (tCB (rIsX K a cls d) (tCons (tVar 0) (tCons (tC (.ref A.c_UnknownStep)) tNil))) tNil))) (gName 1))
  (tRet (tAndV (tOp (oEq K) (tVar 1) (tC (.int 1))) (tAndV (tCB (rIsX K a cls d) (tCons (tVar 0) (tCons (tC (.ref A.c_DeedError)) tNil))) (tCB (rIsX K a cls d) (tCons (tVar 0) (tCons (tC (.ty "ValueError")) tNil)))))))))
theorem va_isE {K : PySem.W.Frag} {σ : L2.St} {H : Hp} {i : Nat} {a D C dd : Addr} {fs : List (Str × V)} {b : Bool} (e : σ[i]? = some (some (.ref a))) (hd : H dd = some (.xd fs)) (x : ExcC K D) (kt : PySem.W.kitOne K (.ref D) (.ref C) = some b) :
    Val (tCB (rIsX K a (.ref D) (some dd)) (tCons (tVar i) (tCons (tC (.ref C)) tNil))) σ H (.bl b) := fun Q q => q_cb (q_cons (q_var e (q_cons (q_c (q_nil ⟨D, dd, fs, rfl, rfl, hd, x, .inl ⟨_, _, b, rfl, .own _, kt, q⟩⟩)))))
theorem va_isEt {K : PySem.W.Frag} {σ : L2.St} {H : Hp} {i : Nat} {a D dd : Addr} {fs : List (Str × V)} {b : Bool} {n : String} (e : σ[i]? = some (some (.ref a))) (hd : H dd = some (.xd fs)) (x : ExcC K D) (kt : PySem.W.kitOne K (.ref D) (.type n) = some b) :
    Val (tCB (rIsX K a (.ref D) (some dd)) (tCons (tVar i) (tCons (tC (.ty n)) tNil))) σ H (.bl b) := fun Q q => q_cb (q_cons (q_var e (q_cons (q_c (q_nil ⟨D, dd, fs, rfl, rfl, hd, x, .inl ⟨_, _, b, rfl, .ty _, kt, q⟩⟩)))))
theorem va_int {σ : L2.St} {H : Hp} {te : TE} {b : Bool} (h : Val te σ H (.bl b)) : Val (tCB cInt (tCons te tNil)) σ H (.int (if b then 1 else 0)) := fun Q q => q_cb (q_cons (h _ (q_nil (q_cIntB q))))
theorem Val.to {σ : L2.St} {H : Hp} {te : TE} {v v' : V} (h : Val te σ H v) (e : v = v') : Val te σ H v' := e ▸ h
theorem pure__law_single {K : PySem.W.Frag} {A : Ad} {a : Addr} {cls : Value} {d : Option Addr} {vs : List V} {H : Hp} {Q : VK} {E : XK} (TX : Caught K A) (h : sp__law_single K A a cls d vs H Q E) : t__law_single K A a cls d { nx := fun _ H' => Q .non H', rt := Q } (start ["_law_e", "_law_many_here"] vs) H := by
  obtain ⟨_, rfl, rfl, er, dd, fs, rfl, rfl, hd, k⟩ := h
  cases er with
  | act =>
    unfold t__law_single
    have x := TX.x_BadAction
    refine q_seq (q_asg (q_val (va_add (va_add (va_int (va_isE rfl hd x TX.k_BadAction__BadAction)) (va_int (va_isE rfl hd x TX.k_BadAction__BadKind))) (va_int (va_isE rfl hd x TX.k_BadAction__BadName))) (q_name ?_)))
    refine q_seq (q_asg (q_val (va_add (va_add (va_var rfl) (va_int (va_isE rfl hd x TX.k_BadAction__BadNumber))) (va_int (va_isE rfl hd x TX.k_BadAction__BadStatement))) (q_name ?_)))
    refine q_seq (q_asg (q_val (va_add (va_add (va_var rfl) (va_int (va_isE rfl hd x TX.k_BadAction__UnknownCell))) (va_int (va_isE rfl hd x TX.k_BadAction__UnknownStep))) (q_name ?_)))
    exact q_ret (q_val ((va_andV (va_eqS (va_var rfl) va_c rfl) fun _ => va_andV (va_isE rfl hd x TX.k_BadAction__DeedError) fun _ => va_isEt rfl hd x TX.k_BadAction__ValueError).to (by decide)) k)
  | num =>
    unfold t__law_single
    have x := TX.x_BadNumber
    refine q_seq (q_asg (q_val (va_add (va_add (va_int (va_isE rfl hd x TX.k_BadNumber__BadAction)) (va_int (va_isE rfl hd x TX.k_BadNumber__BadKind))) (va_int (va_isE rfl hd x TX.k_BadNumber__BadName))) (q_name ?_)))
    refine q_seq (q_asg (q_val (va_add (va_add (va_var rfl) (va_int (va_isE rfl hd x TX.k_BadNumber__BadNumber))) (va_int (va_isE rfl hd x TX.k_BadNumber__BadStatement))) (q_name ?_)))
    refine q_seq (q_asg (q_val (va_add (va_add (va_var rfl) (va_int (va_isE rfl hd x TX.k_BadNumber__UnknownCell))) (va_int (va_isE rfl hd x TX.k_BadNumber__UnknownStep))) (q_name ?_)))
    exact q_ret (q_val ((va_andV (va_eqS (va_var rfl) va_c rfl) fun _ => va_andV (va_isE rfl hd x TX.k_BadNumber__DeedError) fun _ => va_isEt rfl hd x TX.k_BadNumber__ValueError).to (by decide)) k)
  | cell =>
    unfold t__law_single
    have x := TX.x_UnknownCell
    refine q_seq (q_asg (q_val (va_add (va_add (va_int (va_isE rfl hd x TX.k_UnknownCell__BadAction)) (va_int (va_isE rfl hd x TX.k_UnknownCell__BadKind))) (va_int (va_isE rfl hd x TX.k_UnknownCell__BadName))) (q_name ?_)))
    refine q_seq (q_asg (q_val (va_add (va_add (va_var rfl) (va_int (va_isE rfl hd x TX.k_UnknownCell__BadNumber))) (va_int (va_isE rfl hd x TX.k_UnknownCell__BadStatement))) (q_name ?_)))
    refine q_seq (q_asg (q_val (va_add (va_add (va_var rfl) (va_int (va_isE rfl hd x TX.k_UnknownCell__UnknownCell))) (va_int (va_isE rfl hd x TX.k_UnknownCell__UnknownStep))) (q_name ?_)))
    exact q_ret (q_val ((va_andV (va_eqS (va_var rfl) va_c rfl) fun _ => va_andV (va_isE rfl hd x TX.k_UnknownCell__DeedError) fun _ => va_isEt rfl hd x TX.k_UnknownCell__ValueError).to (by decide)) k)
  | step =>
    unfold t__law_single
    have x := TX.x_UnknownStep
    refine q_seq (q_asg (q_val (va_add (va_add (va_int (va_isE rfl hd x TX.k_UnknownStep__BadAction)) (va_int (va_isE rfl hd x TX.k_UnknownStep__BadKind))) (va_int (va_isE rfl hd x TX.k_UnknownStep__BadName))) (q_name ?_)))
    refine q_seq (q_asg (q_val (va_add (va_add (va_var rfl) (va_int (va_isE rfl hd x TX.k_UnknownStep__BadNumber))) (va_int (va_isE rfl hd x TX.k_UnknownStep__BadStatement))) (q_name ?_)))
    refine q_seq (q_asg (q_val (va_add (va_add (va_var rfl) (va_int (va_isE rfl hd x TX.k_UnknownStep__UnknownCell))) (va_int (va_isE rfl hd x TX.k_UnknownStep__UnknownStep))) (q_name ?_)))
    exact q_ret (q_val ((va_andV (va_eqS (va_var rfl) va_c rfl) fun _ => va_andV (va_isE rfl hd x TX.k_UnknownStep__DeedError) fun _ => va_isEt rfl hd x TX.k_UnknownStep__ValueError).to (by decide)) k)
def sp__law_reason (_ : PySem.W.Frag) (A : Ad) : SpX := fun a cls d => Sp1 fun x H Q _ => x = .ref a ∧ ∃ er dd v e, cls = .ref (Er.cls A er) ∧ d = some dd ∧ H dd = some (.xd [(Er.fld er, v)]) ∧ Tp H v e ∧ ∀ t H', Same H H' → Tp H' t (.tuple [.str er.word, e]) → Q t H'
def t__law_reason (K : PySem.W.Frag) (A : Ad) (a : Addr) (cls : Value) (d : Option Addr) : TS :=
  (tSeq (tIfS (tNot (tB (tCallX (sp__law_single K A) a cls d (tCons (tVar 0) tNil))))
  (tRet (tTup tNil))
  tNext)
  (tSeq (tIfS (tB (tCB (rIsX K a cls d) (tCons (tVar 0) (tCons (tC (.ref A.c_BadAction)) tNil))))
  (tRet (tTup (tCons (tC (.str "BadAction")) (tCons (tXf a cls d A.c_BadAction "action" (tVar 0)) tNil))))
  tNext)
  (tSeq (tIfS (tB (tCB (rIsX K a cls d) (tCons (tVar 0) (tCons (tC (.ref A.c_BadNumber)) tNil))))
  (tRet (tTup (tCons (tC (.str "BadNumber")) (tCons (tXf a cls d A.c_BadNumber "number" (tVar 0)) tNil))))
  tNext)
  (tSeq (tIfS (tB (tCB (rIsX K a cls d) (tCons (tVar 0) (tCons (tC (.ref A.c_UnknownCell)) tNil))))
  (tRet (tTup (tCons (tC (.str "UnknownCell")) (tCons (tXf a cls d A.c_UnknownCell "cell" (tVar 0)) tNil))))
  tNext)
  (tSeq (tIfS (tB (tCB (rIsX K a cls d) (tCons (tVar 0) (tCons (tC (.ref A.c_UnknownStep)) tNil))))
  (tRet (tTup (tCons (tC (.str "UnknownStep")) (tCons (tXf a cls d A.c_UnknownStep "step" (tVar 0)) tNil))))
  tNext)
  (tRet (tTup tNil)))))))
theorem q_tXf {a C dd : Addr} {f : Str} {σ : L2.St} {H : Hp} {Q : VK} {i : Nat} {v : V} (e : σ[i]? = some (some (.ref a))) (hd : H dd = some (.xd [(f, v)])) (q : Q v H) : tXf a (.ref C) (some dd) C f (tVar i) σ H Q := q_var e ⟨rfl, rfl, dd, _, v, rfl, hd, by simp [List.lookup], q⟩
theorem pure__law_reason {K : PySem.W.Frag} {A : Ad} {a : Addr} {cls : Value} {d : Option Addr} {vs : List V} {H : Hp} {Q : VK} {E : XK} (TX : Caught K A) (h : sp__law_reason K A a cls d vs H Q E) : t__law_reason K A a cls d { nx := fun _ H' => Q .non H', rt := Q } (start ["_law_e"] vs) H := by
  obtain ⟨_, rfl, rfl, er, dd, v, e, rfl, rfl, hd, hv, k⟩ := h
  have two : ∀ w : Str, (∀ t H', Same H H' → Tp H' t (.tuple [.str w, e]) → Q t H') → ([.str w, v] : List V).length ≤ sizeLine ∧ ∀ t, H t = none → Q (.ref t) (upd H t (.tup [.str w, v])) := fun w kq => ⟨by show 2 ≤ sizeLine; decide, fun t ht => kq _ _ (same_new ht) (.mk2 upd_same (.str _) (hv.mono (Tk.new ht)))⟩
  unfold t__law_reason
  refine q_seq (q_ifS (q_not (q_tB ?_)))
  refine q_cons (q_var rfl (q_nil ⟨_, rfl, rfl, er, dd, _, rfl, rfl, hd, true, rfl, q_F (q_next ?_)⟩))
  dsimp only
  cases er with
  | act =>
    have x := TX.x_BadAction
    refine q_seq (q_ifA (an_tB (va_isE rfl hd x TX.k_BadAction__BadAction)) (fun _ => ?_) (fun e => by cases e))
    exact q_ret (q_tup (q_cons (q_c (q_cons (q_tXf rfl hd (q_nil (two "BadAction" k)))))))
  | num =>
    have x := TX.x_BadNumber
    refine q_seq (q_ifA (an_tB (va_isE rfl hd x TX.k_BadNumber__BadAction)) (fun e => by cases e) (fun _ => q_next ?_))
    dsimp only
    refine q_seq (q_ifA (an_tB (va_isE rfl hd x TX.k_BadNumber__BadNumber)) (fun _ => ?_) (fun e => by cases e))
    exact q_ret (q_tup (q_cons (q_c (q_cons (q_tXf rfl hd (q_nil (two "BadNumber" k)))))))
  | cell =>
    have x := TX.x_UnknownCell
    refine q_seq (q_ifA (an_tB (va_isE rfl hd x TX.k_UnknownCell__BadAction)) (fun e => by cases e) (fun _ => q_next ?_))
    dsimp only
    refine q_seq (q_ifA (an_tB (va_isE rfl hd x TX.k_UnknownCell__BadNumber)) (fun e => by cases e) (fun _ => q_next ?_))
    dsimp only
    refine q_seq (q_ifA (an_tB (va_isE rfl hd x TX.k_UnknownCell__UnknownCell)) (fun _ => ?_) (fun e => by cases e))
    exact q_ret (q_tup (q_cons (q_c (q_cons (q_tXf rfl hd (q_nil (two "UnknownCell" k)))))))
  | step =>
    have x := TX.x_UnknownStep
    refine q_seq (q_ifA (an_tB (va_isE rfl hd x TX.k_UnknownStep__BadAction)) (fun e => by cases e) (fun _ => q_next ?_))
    dsimp only
    refine q_seq (q_ifA (an_tB (va_isE rfl hd x TX.k_UnknownStep__BadNumber)) (fun e => by cases e) (fun _ => q_next ?_))
    dsimp only
    refine q_seq (q_ifA (an_tB (va_isE rfl hd x TX.k_UnknownStep__UnknownCell)) (fun e => by cases e) (fun _ => q_next ?_))
    dsimp only
    refine q_seq (q_ifA (an_tB (va_isE rfl hd x TX.k_UnknownStep__UnknownStep)) (fun _ => ?_) (fun e => by cases e))
    exact q_ret (q_tup (q_cons (q_c (q_cons (q_tXf rfl hd (q_nil (two "UnknownStep" k)))))))
def outD (d : PyData) : Option (Er × PyData) → PyData
  | none => .tuple [.str "returned", d]
  | some (er, e) => .tuple [.str er.word, e]
def sp__law_outcome (_ : PySem.W.Frag) (A : Ad) : Sp := Sp2 fun x y H Q _ => ∃ (b : Addr) (names : List Str) (cs : List Cell) (m : Nat) (d : PyData), x = .ref b ∧ Tp H y d ∧ AX m d ∧ BkC A H b names cs ∧ ∀ t H', Same H H' → Tp H' t (outD d (flt names cs 3 0 d)) → Q t H'
theorem match_er {K : PySem.W.Frag} {A : Ad} (TX : Caught K A) (er : Er) : PySem.W.exmOne K (.ref (er.cls A)) (.ref A.c_DeedError) = some true := by
  cases er
  · exact TX.m_BadAction__DeedError
  · exact TX.m_BadNumber__DeedError
  · exact TX.m_UnknownCell__DeedError
  · exact TX.m_UnknownStep__DeedError
def t__law_outcome (K : PySem.W.Frag) (A : Ad) : TS :=
  (fun D σ H => (fun W => (tRet (tTup (tCons (tC (.str "returned")) (tCons (tCallS (sp_check_action K A) (WE W) (tCons (tVar 0) (tCons (tVar 1) tNil))) tNil))))) (wAs K (.ref A.c_DeedError) 2 (fun a cls d => (tRet (tCallX (sp__law_reason K A) a cls d (tCons (tVar 2) tNil)))) (fun _ _ _ _ => False) D) D σ H)
theorem pure__law_outcome {K : PySem.W.Frag} {A : Ad} {vs : List V} {H : Hp} {Q : VK} {E : XK} (TX : Caught K A) (h : sp__law_outcome K A vs H Q E) : t__law_outcome K A { nx := fun _ H' => Q .non H', rt := Q } (start ["_law_book_here", "_law_action_here", "_law_e"] vs) H := by
  obtain ⟨_, y, rfl, b, names, cs, m, d, rfl, hy, hA, B, k⟩ := h
  unfold t__law_outcome
  refine q_ret (q_tup (q_cons (q_c (q_cons ?_))))
  refine q_cons (q_var rfl (q_cons (q_var rfl (q_nil ?_))))
  refine ⟨_, _, rfl, b, names, cs, m, d, rfl, hy, hA, B, fun hn H' S => ?_, fun er e he v dd H' S hdd hv => ?_⟩
  · rw [hn] at k
    exact q_nil ⟨by show 2 ≤ sizeLine; decide, fun t ht => k _ _ (S.trans (same_new ht)) (.mk2 upd_same (.str _) ((hy.mono (Tk.same S)).mono (Tk.new ht)))⟩
  · rw [he] at k
    refine ⟨true, match_er TX er, fun _ a ha => ?_, fun q => Bool.noConfusion q⟩
    refine q_ret (q_cons (q_var rfl (q_nil ⟨_, rfl, rfl, er, dd, v, e, rfl, rfl, hdd, hv, fun t H2 S2 ht => k t H2 (S.trans S2) ht⟩)))

end Ov

set_option Elab.async false
set_option linter.all false
set_option maxRecDepth 100000
set_option maxHeartbeats 2000000
namespace Ov
open PySem PySem.Spec PyProof.Rows L2
local macro_rules | `(tactic| walk_at "r1") => `(tactic| (first
  | with_reducible refine q_seq ?_ | with_reducible refine q_asg ?_ | with_reducible refine q_name ?_ | with_reducible refine q_ret ?_ | with_reducible refine q_drop ?_ | with_reducible refine q_next ?_
  | with_reducible refine q_ifS ?_ | with_reducible refine q_ifE ?_ | with_reducible refine q_op ?_ | with_reducible refine q_un ?_ | with_reducible refine q_test ?_ | with_reducible refine q_tB ?_ | with_reducible refine q_bl ?_
  | with_reducible refine q_c ?_ | with_reducible refine q_cons ?_ | with_reducible refine q_nil ?_ | with_reducible refine q_call ?_ | with_reducible refine q_cb ?_ | with_reducible refine q_gsub ?_
  | with_reducible refine q_sl ?_ | with_reducible refine q_noPart ?_ | with_reducible refine q_part ?_ | with_reducible refine q_int ?_
  | with_reducible refine q_addI ?_ | with_reducible refine q_subI ?_ | with_reducible refine q_ltI ?_ | with_reducible refine q_leI ?_ | with_reducible refine q_gtI ?_ | with_reducible refine q_geI ?_ | with_reducible refine q_negI ?_
  | with_reducible refine q_cIntI ?_ | with_reducible refine q_cAbs ?_ | with_reducible refine q_isN ?_ | with_reducible refine q_notN ?_
  | with_reducible refine q_and ?_ | with_reducible refine q_or ?_ | with_reducible refine q_not ?_ | with_reducible refine q_andV ?_ | with_reducible refine q_orV ?_ | with_reducible refine q_notV ?_
  | ((with_reducible show tVar _ _ _ _); refine q_var rfl ?_)))
local macro_rules | `(tactic| walk_at "rd") => `(tactic| repeat walk_at "r1")
local macro_rules | `(tactic| walk_at "mod") => `(tactic| with_reducible refine q_modI (by first | omega | decide) ?_)

theorem argF_depth {cs : List Cell} {d a : PyData} {er : Er} {e : PyData} {N : Nat} (ha : ArgX a) (hd : d.depth ≤ N) (h : argF cs d a = some (er, e)) : e.depth ≤ N := by
  cases ha with
  | non => simp [argF] at h
  | int i =>
    simp only [argF] at h
    split at h
    · cases h
    · cases h
      simp [PyData.depth]
  | pair w c =>
    simp only [argF] at h
    split at h
    · split at h
      · cases h
      · cases h
        simp [PyData.depth]
    · cases h
      exact hd
theorem flt_depth {names : List Str} {cs : List Cell} : ∀ (n : Nat) {m : Nat} (dep : Int) {d : PyData} {er : Er} {e : PyData}, AX m d → flt names cs n dep d = some (er, e) → e.depth ≤ 2 * m
  | 0, _, dep, d, er, e, _, h => by simp [flt] at h
  | n + 1, _, dep, _, er, e, .mk (n := m) (g := g) (s := s) (a := a) (fs := fs) ha hl hf, h => by
    have hdp := (AX.mk (g := g) (s := s) ha hl hf).depth
    simp only [flt] at h
    split at h
    · split at h
      · split at h
        · rename_i r hr
          cases h
          exact argF_depth ha hdp hr
        · split at h
          · cases h
            exact hdp
          · obtain ⟨f, hfm, hfe⟩ := List.exists_of_findSome?_eq_some h
            have := flt_depth n (dep + 1) (hf f hfm) hfe
            omega
      · cases h
        simp [PyData.depth]
    · cases h
      exact hdp
theorem out_depth {names : List Str} {cs : List Cell} {m : Nat} {d : PyData} (h : AX m d) : (outD d (flt names cs 3 0 d)).depth ≤ 2 * m + 1 := by
  have h1 := h.depth
  cases e : flt names cs 3 0 d with
  | none =>
    simp [outD, PyData.depth, PyData.depthAll]
    omega
  | some re =>
    obtain ⟨er, x⟩ := re
    have h2 := flt_depth 3 0 h e
    simp [outD, PyData.depth, PyData.depthAll]
    omega
/-- what the program answers is what the law finds -/
theorem last07 {K : PySem.W.Frag} {A : Ad} {D : Ends} {σ : L2.St} {H : Hp} {b : Addr} {x r : V} {names : List Str} {cs : List Cell} {d : PyData} (e3 : σ[3]? = some (some (.ref b))) (e7 : σ[7]? = some (some x)) (e8 : σ[8]? = some (some r)) (hx : Tp H x d) (hA : AX 9 d) (B : BkC A H b names cs) (hr : Tp H r (outD d (flt names cs 3 0 d))) (hD : ∀ H', Same H H' → D.nx σ H') :
    tIfS (tNot (tB (tCall (sp__law_same K A) [] E0 (tCons (tCall (sp__law_outcome K A) [] E0 (tCons (tVar 3) (tCons (tVar 7) tNil))) (tCons (tVar 8) tNil))))) (tRet (tC (.bl false))) tNext D σ H := by
  refine q_ifS (q_not (q_tB (q_call (q_cons (q_call (q_cons (q_var e3 (q_cons (q_var e7 ?_)))))))))
  refine q_nil (s2 ⟨b, names, cs, 9, d, rfl, hx, hA, B, fun t H' S ht => q_cons (q_var e8 (q_nil ?_))⟩)
  have hd := out_depth (names := names) (cs := cs) hA
  exact s2 ⟨_, ht.rp, (hr.mono (Tk.same S)).rp, by omega, true, rfl, q_F (q_next (hD H' S))⟩
/-- [draw(pool, many(action))] -/
theorem q_spot {K : PySem.W.Frag} {A : Ad} {σ : L2.St} {H : Hp} {Q : VK} {i j : Nat} {p : Addr} {v : V} {d : PyData} {m : Nat} (ei : σ[i]? = some (some (.ref p))) (ej : σ[j]? = some (some v)) (P : Pool H p) (hv : Tp H v d) (hA : AX m d) (hm : m ≤ 9)
    (k : ∀ (sq : Addr) (r : Int) H', Dw p H H' → H' sq = none → Q (.ref sq) (upd H' sq (.lst [.int r]))) : tLst (tCons (tCall (sp__law_draw K A) [] E0 (tCons (tVar i) (tCons (tCall (sp__law_many K A) [] E0 (tCons (tVar j) tNil)) tNil))) tNil) σ H Q := by
  have mono : ∀ {a b : Nat}, a ≤ b → bndA a ≤ bndA b := fun {a b} h => by
    induction h with
    | refl => exact Nat.le_refl _
    | @step b _ ih =>
      show bndA a ≤ 1 + 4 * bndA b
      omega
  have h9 : bndA 9 = 87381 := rfl
  refine q_lst (q_cons (q_call (q_cons (q_var ei (q_cons (q_call (q_cons (q_var ej ?_)))))))) 
  refine q_nil (s1 ⟨m, d, hm, hv, hA, fun c c0 c1 => q_nil (s2 ⟨p, _, rfl, rfl, by omega, ?_, P, fun r H' r0 r1 D => q_nil ⟨by show 1 ≤ sizeLine; decide, fun sq hsq => k sq r H' (.of D) hsq⟩⟩)⟩)
  have := mono hm
  omega
/-- from before the spot to behind the spoiling -/
theorem touchW {p sq : Addr} {H H2 H3 H' : Hp} {r : Int} (D2 : Dw p H H2) (hs : H2 sq = none) (D3 : Dw p (upd H2 sq (.lst [.int r])) H3) (D : Dq p sq H3 H') : Dw p H H' := by
  have nsp : sq ≠ p := fun z => by obtain ⟨ys, hp⟩ := pool_at D2.pool; rw [z, hp] at hs; cases hs
  refine ⟨D.pool, fun a o n e => ?_, ((D2.hd.trans (Hd.off nsp)).trans D3.hd).trans D.hd⟩
  have e2 := D2.ex a o n e
  have ns : a ≠ sq := ne_of_none e2 hs
  exact D.ex a o n ns (D3.ex a o n (by rw [upd_ne ns]; exact e2))
theorem spot_ok {p sq lp nl kd pl : Addr} {H2 H3 : Hp} {r : Int} {names : List Str} {cs : List Cell} (P : Pool H2 p) (L : Lore H2 p lp nl kd pl names cs) (hs : H2 sq = none) (D3 : Dw p (upd H2 sq (.lst [.int r])) H3) : sq ≠ p ∧ Off3 sq lp nl pl ∧ POff H3 p sq ∧ H3 sq = some (.lst [.int r]) ∧ Tk H2 H3 := by
  have nsp : sq ≠ p := fun z => by obtain ⟨ys, hp⟩ := pool_at P; rw [z, hp] at hs; cases hs
  obtain ⟨xs, hx, _⟩ := L.h2
  have o : POff (upd H2 sq (.lst [.int r])) p sq := (POff.new P hs).upd nsp
  exact ⟨nsp, ⟨ne_of_none L.h0 hs, ne_of_none L.h1 hs, ne_of_none hx hs⟩, o.dw (P.new hs) D3, D3.ex _ _ nsp upd_same, (Tk.new hs).trans (D3.tk (P.new hs))⟩
def Inv07 (a p lp b al : Addr) (vb : V) (H0 : Hp) (i : Nat) (σ : L2.St) (H' : Hp) : Prop := ∃ (vs : List V) (v6 v7 v8 v9 : Option V), σ = [some (.ref a), some (.ref p), some (.ref lp), some (.ref b), some vb, some (.ref al), v6, v7, v8, v9] ∧ Dw p H0 H' ∧ POff H' p al ∧ H' al = some (.lst vs) ∧ vs.length ≤ i + 1 ∧ ∀ v ∈ vs, ∃ d, Tp H' v d ∧ AX 9 d
theorem app07 {K : PySem.W.Frag} {D : Ends} {a p lp b al : Addr} {vb x : V} {H0 H8 : Hp} {i : Nat} {vs : List V} {v6 v8 v9 : Option V} {d : PyData} (h0 : H0 al = none) (nal : al ≠ p) (hi : i ≤ 100) (W : Dw p H0 H8) (off : POff H8 p al) (hal : H8 al = some (.lst vs)) (hl : vs.length ≤ i + 1) (hvs : ∀ v ∈ vs, ∃ d, Tp H8 v d ∧ AX 9 d) (hx : Tp H8 x d) (hA : AX 9 d)
    (hD : ∀ σ H, Inv07 a p lp b al vb H0 (i + 1) σ H → D.nx σ H) : tDrop (tBM K "list" rAppend (tVar 5) (tCons (tVar 7) tNil)) D [some (.ref a), some (.ref p), some (.ref lp), some (.ref b), some vb, some (.ref al), v6, some x, v8, v9] H8 := by
  refine q_drop (q_bm (q_var rfl ⟨tyL hal, q_cons (q_var rfl (q_nil (q_append hal (by rw [sizeLine_eq]; omega) (hD _ _ ⟨vs ++ [x], _, _, _, _, rfl, ⟨W.pool.at_off off nal, fun c o n e => ?_, fun l r e => ?_⟩, off.upd nal, upd_same, by rw [List.length_append]; simp; omega, fun v hv => ?_⟩))))⟩))
  · rw [upd_ne (ne_of_none e h0)]
    exact W.ex c o n e
  · obtain ⟨r', e'⟩ := W.hd l r e
    exact ⟨r', by rw [upd_ne (Ne.symm nal)]; exact e'⟩
  · have tk : Tk H8 (upd H8 al (.lst (vs ++ [x]))) := Tk.lst hal
    rcases List.mem_append.mp hv with h | h
    · obtain ⟨d', h1, h2⟩ := hvs v h
      exact ⟨d', h1.mono tk, h2⟩
    · rw [List.mem_singleton.mp h]
      exact ⟨d, hx.mono tk, hA⟩
def t_law (K : PySem.W.Frag) (A : Ad) : TS :=
  (tSeq (tAsg (tCall (sp__law_pool K A) [] E0 (tCons (tVar 0) tNil)) (gName 1))
  (tSeq (tAsg (tCall (sp__law_lore K A) [] E0 (tCons (tVar 1) (tCons (tC (.int 3)) (tCons (tC (.int 2)) tNil)))) (gName 2))
  (tSeq (tAsg (tCall (sp__law_book K A) [] E0 (tCons (tVar 2) tNil)) (gName 3))
  (tSeq (tAsg (tCall (sp__law_rich K A) [] E0 (tCons (tVar 1) (tCons (tVar 2) tNil))) (gName 4))
  (tSeq (tAsg (tLst (tCons (tVar 4) tNil)) (gName 5))
  (tSeq (tFor (iRng1 (tCons (tC (.int 9)) tNil)) (gName 6)
  (tSeq (tAsg (tCall (sp__law_touched K A) [] E0 (tCons (tVar 1) (tCons (tVar 2) (tCons (tVar 4) (tCons (tLst (tCons (tCall (sp__law_draw K A) [] E0 (tCons (tVar 1) (tCons (tCall (sp__law_many K A) [] E0 (tCons (tVar 4) tNil)) tNil))) tNil)) (tCons (tVar 6) tNil)))))) (gName 7))
  (tSeq (tIfS (tTest (tOp (oEq K) (tCall (sp__law_draw K A) [] E0 (tCons (tVar 1) (tCons (tC (.int 3)) tNil))) (tC (.int 1))))
  (tSeq (tAsg (tLst (tCons (tCall (sp__law_draw K A) [] E0 (tCons (tVar 1) (tCons (tCall (sp__law_many K A) [] E0 (tCons (tVar 7) tNil)) tNil))) tNil)) (gName 9))
  (tAsg (tCall (sp__law_touched K A) [] E0 (tCons (tVar 1) (tCons (tVar 2) (tCons (tVar 7) (tCons (tVar 9) (tCons (tCall (sp__law_draw K A) [] E0 (tCons (tVar 1) (tCons (tC (.int 9)) tNil))) tNil)))))) (gName 7)))
  tNext)
  (tDrop (tBM K "list" rAppend (tVar 5) (tCons (tVar 7) tNil))))))
  (tSeq (tFor (iAny K (tOp (oAdd K) (tVar 5) (tLst (tCons (tVar 4) tNil)))) (gName 7)
  (tSeq (tAsg (tCall (sp__law_fault K A) [] E0 (tCons (tVar 2) (tCons (tVar 7) (tCons (tC (.int 0)) tNil)))) (gName 8))
  (tSeq (tIfS (tTest (tOp oIsN (tVar 8) (tC .non)))
  (tAsg (tTup (tCons (tC (.str "returned")) (tCons (tVar 7) tNil))) (gName 8))
  tNext)
  (tIfS (tNot (tB (tCall (sp__law_same K A) [] E0 (tCons (tCall (sp__law_outcome K A) [] E0 (tCons (tVar 3) (tCons (tVar 7) tNil))) (tCons (tVar 8) tNil)))))
  (tRet (tC (.bl false)))
  tNext))))
  (tRet (tC (.bl true))))))))))
theorem pure_law {K : PySem.W.Frag} {A : Ad} {vs : List V} {H : Hp} {Q : VK} {E : XK} (h : sp_law K A vs H Q E) : t_law K A { nx := fun _ H' => Q .non H', rt := Q } (start ["_law_script", "_law_pool_here", "_law_lore_here", "_law_book_here", "_law_base", "_law_actions", "_law_way", "_law_action_here", "_law_due", "_law_spot"] vs) H := by
  obtain ⟨_, rfl, a, ns, rfl, hS, hlen, k⟩ := h
  unfold t_law
  refine q_seq (q_asg (q_call (q_cons (q_var rfl (q_nil (s1 ⟨a, ns, rfl, hS, fun p H1 S1 P hp => q_name ?_⟩))))))
  dsimp only
  refine q_seq (q_asg (q_call (q_cons (q_var rfl (q_cons (q_c (q_cons (q_c (q_nil (s3 ⟨p, rfl, rfl, rfl, P, fun lp nl kd pl names cs H2 D2 L hK nkp G hAsc => q_name ?_⟩))))))))))
  dsimp only
  refine q_seq (q_asg (q_call (q_cons (q_var rfl (q_nil (s1 ⟨p, lp, nl, kd, pl, names, cs, rfl, L, hK, G, fun b H3 S3 B => q_name ?_⟩))))))
  dsimp only
  have P3 := D2.pool.same S3
  have L3 := L.mono D2.pool (Dw.same D2.pool S3)
  refine q_seq (q_asg (q_call (q_cons (q_var rfl (q_cons (q_var rfl (q_nil (s2 ⟨p, lp, nl, kd, pl, names, cs, rfl, rfl, P3, L3, fun vb db H4 D4 hvb hdb => q_name ?_⟩))))))))
  dsimp only
  have L4 := L3.mono P3 D4
  have B4 : BkC A H4 b names cs := ⟨B.mono P3 D4, fun i c hc => dis_of G.nd i c hc, hAsc, L.l2⟩
  have hdx := hdb.x
  have P4 := D4.pool
  refine q_seq (q_asg (q_lst (q_cons (q_var rfl (q_nil ⟨by show 1 ≤ sizeLine; decide, fun al hal => q_name ?_⟩)))))
  have nal : al ≠ p := fun z => by obtain ⟨ys, e⟩ := pool_at P4; rw [z, e] at hal; cases hal
  dsimp only
  refine q_seq (q_forR va_c (by decide) (by decide) (Inv07 a p lp b al vb H4)
    ⟨[vb], _, _, _, _, rfl, .new P4 hal, (POff.new P4 hal).upd nal, upd_same, (show 1 ≤ 0 + 1 by decide), fun v hv => by rw [List.mem_singleton.mp hv]; exact ⟨db, hvb.mono (Tk.new hal), hdx.le (by decide)⟩⟩ ?_ ?_)
  · rintro i σ H' hi ⟨ws, v6, v7, v8, v9, rfl, W, off, hal', hwl, hws⟩
    have hi9 : i ≤ 100 := by
      have : i < Int.toNat 9 := hi
      have e : Int.toNat 9 = 9 := rfl
      omega
    refine q_name ?_
    dsimp only
    have T0 := W.tk P4
    refine q_seq (q_asg (q_call (q_cons (q_var rfl (q_cons (q_var rfl (q_cons (q_var rfl (q_cons (q_spot rfl rfl W.pool (hvb.mono T0) hdx (by decide) fun sq r H6 D6 hsq => ?_))))))))))
    have W6 := W.trans D6
    have L6 := L4.mono P4 W6
    obtain ⟨nsp, o3, off6, hsq6, tk6⟩ := spot_ok D6.pool L6 hsq (Dw.refl (D6.pool.new hsq))
    have L6' := L6.mono D6.pool (.new (o := .lst [.int r]) D6.pool hsq)
    refine q_cons (q_var rfl (q_nil (s5 ⟨p, lp, nl, kd, pl, sq, names, cs, 3, db, _, r, by decide, rfl, rfl, (hvb.mono (W6.tk P4)).mono tk6, hdx, rfl, rfl, D6.pool.new hsq, L6', o3, upd_same, nsp, off6, fun x d H7 D7 hx hA => q_name ?_⟩)))
    have W7 := touchW (Dw.trans W D6) hsq (Dw.refl (D6.pool.new hsq)) D7
    have W7' := touchW D6 hsq (Dw.refl (D6.pool.new hsq)) D7
    dsimp only
    refine q_seq (q_ifS (q_test (q_op (q_call (q_cons (q_var rfl (q_cons (q_c (q_nil (s2 ⟨p, 3, rfl, rfl, by decide, by decide, W7.pool, fun r8 H8 _ _ D8 => q_c (q_eqS rfl ⟨_, rfl, q_dec (fun _ => ?_) (fun _ => q_next ?_)⟩)⟩))))))))))
    · have W8 := W7.trans (.of D8)
      have W8' := W7'.trans (.of D8)
      have hx8 := hx.mono (Dw.tk W7.pool (.of D8))
      refine q_seq (q_asg (q_spot rfl rfl W8.pool hx8 hA (by decide) fun sq2 r2 H9 D9 hsq2 => q_name ?_))
      dsimp only
      have W9 := W8.trans D9
      have L9 := L4.mono P4 W9
      refine q_asg (q_call (q_cons (q_var rfl (q_cons (q_var rfl (q_cons (q_var rfl (q_cons (q_var rfl (q_cons (q_call (q_cons (q_var rfl (q_cons (q_c (q_nil (s2 ⟨p, 9, rfl, rfl, by decide, by decide, D9.pool.new hsq2, fun rw H10 _ _ D10 => ?_⟩)))))))))))))))))
      obtain ⟨nsp2, o32, off10, hsq10, tk10⟩ := spot_ok D9.pool L9 hsq2 (.of D10)
      have L10 := (L9.mono D9.pool (.new (o := .lst [.int r2]) D9.pool hsq2)).mono (D9.pool.new hsq2) (.of D10)
      refine q_nil (s5 ⟨p, lp, nl, kd, pl, sq2, names, cs, 6, d, _, r2, by decide, rfl, rfl, (hx8.mono (D9.tk W8.pool)).mono tk10, hA, rfl, rfl, D10.1, L10, o32, hsq10, nsp2, off10, fun x2 d2 H11 D11 hx2 hA2 => q_name ?_⟩)
      have W11 := touchW (W8.trans D9) hsq2 (.of D10) D11
      have W11' := W8'.trans (touchW D9 hsq2 (.of D10) D11)
      exact app07 hal nal hi9 W11 (off.dw W.pool W11') (W11'.ex _ _ nal hal') hwl (fun v hv => by obtain ⟨d', h1, h2⟩ := hws v hv; exact ⟨d', h1.mono (W11'.tk W.pool), h2⟩) hx2 (hA2.le (by decide)) fun σ H h => h
    · have W8 := W7.trans (.of D8)
      have W8' := W7'.trans (.of D8)
      exact app07 hal nal hi9 W8 (off.dw W.pool W8') (W8'.ex _ _ nal hal') hwl (fun v hv => by obtain ⟨d', h1, h2⟩ := hws v hv; exact ⟨d', h1.mono (W8'.tk W.pool), h2⟩) (hx.mono (Dw.tk W7.pool (.of D8))) (hA.le (by decide)) fun σ H h => h
  · rintro σ H' ⟨ws, v6, v7, v8, v9, rfl, W, off, hal', hwl, hws⟩
    have e9 : Int.toNat 9 = 9 := rfl
    dsimp only
    refine q_seq (q_for ?_)
    refine Or.inl (q_op (q_var rfl (q_lst (q_cons (q_var rfl (q_nil ⟨by show 1 ≤ sizeLine; decide, fun t ht => q_addL (same_new ht _ _ hal') upd_same (by rw [sizeLine_eq]; simp; omega) fun u hu => ⟨u, rfl, ⟨_, SqL.of upd_same⟩, ?_⟩⟩))))))
    have Sc := (same_new (o := .lst [vb]) ht).trans (same_new (o := .lst (ws ++ [vb])) hu)
    have eu : upd (upd H' t (.lst [vb])) u (.lst (ws ++ [vb])) u = some (.lst (ws ++ [vb])) := upd_same
    generalize upd (upd H' t (.lst [vb])) u (.lst (ws ++ [vb])) = Hc at Sc eu ⊢
    have Wc := W.trans (Dw.same W.pool Sc)
    have Lc := L4.mono P4 Wc
    have LSc : LoreS Hc lp nl kd pl names cs := ⟨Lc.h0, Lc.h1, Lc.h2⟩
    have Bc : BkC A Hc b names cs := ⟨B4.bk.mono P4 Wc, B4.ds, B4.as, B4.l2⟩
    have all : ∀ x ∈ ws ++ [vb], ∃ d, Tp Hc x d ∧ AX 9 d := fun x hx => by
      rcases List.mem_append.mp hx with h | h
      · obtain ⟨d, h1, h2⟩ := hws x h
        exact ⟨d, h1.mono (Tk.same Sc), h2⟩
      · rw [List.mem_singleton.mp h]
        exact ⟨db, hvb.mono (Wc.tk P4), hdx.le (by decide)⟩
    refine for_list (K := K) (a := u) (xs := ws ++ [vb]) (fun i σ H' => ∃ (v6 v7 v8 v9 : Option V), σ = [some (.ref a), some (.ref p), some (.ref lp), some (.ref b), some vb, some (.ref al), v6, v7, v8, v9] ∧ Same Hc H')
      ⟨v6, v7, v8, v9, rfl, Same.refl _⟩ (fun i σ H' _ ⟨_, _, _, _, _, S⟩ => SqL.of (S _ _ eu)) ?_ ?_
    · rintro i x σ H5 hx ⟨v6, v7, v8, v9, rfl, S⟩
      obtain ⟨d, hT, hA⟩ := all x (List.mem_of_getElem? hx)
      refine q_name ?_
      dsimp only
      refine q_seq (q_asg (q_call (q_cons (q_var rfl (q_cons (q_var rfl (q_cons (q_c ?_)))))))) 
      refine q_nil (s3 ⟨lp, nl, kd, pl, names, cs, 9, 0, d, rfl, hT.mono (Tk.same S), hA, rfl, by decide, rfl, LSc.keep S, L.l2, fun r H6 S6 hr => q_name ?_⟩)
      have S56 := S.trans S6
      dsimp only
      cases e : flt names cs 3 ((0 : Nat) : Int) d with
      | none =>
        rw [e] at hr
        obtain rfl : r = .non := hr
        refine q_seq (q_ifA (an_test (va_isN (va_var rfl))) (fun _ => ?_) (fun e => by cases e))
        refine q_asg (q_tup (q_cons (q_c (q_cons (q_var rfl (q_nil ⟨by show 2 ≤ sizeLine; decide, fun t2 ht2 => q_name ?_⟩))))))
        have S7 := S56.trans (same_new (o := .tup [.str "returned", x]) ht2)
        refine last07 (names := names) (cs := cs) rfl rfl rfl (hT.mono (Tk.same S7)) hA (Bc.keep S7) ?_ fun H8 S8 => ⟨_, _, _, _, rfl, S7.trans S8⟩
        rw [show flt names cs 3 0 d = none from e]
        exact .mk2 upd_same (.str _) (hT.mono (Tk.same S7))
      | some re =>
        obtain ⟨er, x2⟩ := re
        rw [e] at hr
        have hr' : Tp H6 r (.tuple [.str er.word, x2]) := hr
        obtain ⟨t2, u1, u2, rfl, _⟩ := hr'.two
        refine q_seq (q_ifA (an_test (va_isN (va_var rfl))) (fun e => by cases e) (fun _ => q_next ?_))
        refine last07 (names := names) (cs := cs) rfl rfl rfl (hT.mono (Tk.same S56)) hA (Bc.keep S56) ?_ fun H8 S8 => ⟨_, _, _, _, rfl, S56.trans S8⟩
        rw [show flt names cs 3 0 d = some (er, x2) from e]
        exact hr'
    · rintro σ H5 ⟨v6, v7, v8, v9, rfl, S⟩
      walk_at "rd"
      exact k H5

end Ov

set_option Elab.async false
set_option linter.all false
set_option maxRecDepth 100000
set_option maxHeartbeats 2000000
namespace Ov
open PySem PySem.Spec PyProof.Rows L2
def topS (i : Nat) : Stmt := PySem.Challenge.pw_exitdeeds_k07_whole_action_checks.main.body.getD i (.Pass ⟨0, 0, 0, 0⟩)
abbrev s_is_name : Stmt := topS 17
theorem sc_is_name : FnScope ["text", "letter"] ["text"] (defScope s_is_name) := ⟨rfl, rfl, rfl, by decide +kernel, rfl, by decide +kernel, by decide +kernel⟩
abbrev s_check_number : Stmt := topS 19
theorem sc_check_number : FnScope ["number"] ["number"] (defScope s_check_number) := ⟨rfl, rfl, rfl, by decide +kernel, rfl, by decide +kernel, by decide +kernel⟩
abbrev s_at_most : Stmt := topS 35
theorem sc_at_most : FnScope ["entries", "most"] ["entries", "most"] (defScope s_at_most) := ⟨rfl, rfl, rfl, by decide +kernel, rfl, by decide +kernel, by decide +kernel⟩
abbrev s_Book_cells : Stmt := inClass (topS 38) 6
theorem sc_Book_cells : FnScope ["self", "name"] ["self"] (defScope s_Book_cells) := ⟨rfl, rfl, rfl, by decide +kernel, rfl, by decide +kernel, by decide +kernel⟩
abbrev s_Book___contains__ : Stmt := inClass (topS 38) 10
theorem sc_Book___contains__ : FnScope ["self", "name"] ["self", "name"] (defScope s_Book___contains__) := ⟨rfl, rfl, rfl, by decide +kernel, rfl, by decide +kernel, by decide +kernel⟩
abbrev s_Book___init__ : Stmt := inClass (topS 38) 2
theorem sc_Book___init__ : FnScope ["self"] ["self"] (defScope s_Book___init__) := ⟨rfl, rfl, rfl, by decide +kernel, rfl, by decide +kernel, by decide +kernel⟩
abbrev s__law_pool : Stmt := topS 40
theorem sc__law_pool : FnScope ["_law_script"] ["_law_script"] (defScope s__law_pool) := ⟨rfl, rfl, rfl, by decide +kernel, rfl, by decide +kernel, by decide +kernel⟩
abbrev s__law_mixed : Stmt := topS 41
theorem sc__law_mixed : FnScope ["_law_cell", "_law_turn", "_law_limit", "_law_first", "_law_second", "_law_third"] ["_law_cell", "_law_turn", "_law_limit"] (defScope s__law_mixed) := ⟨rfl, rfl, rfl, by decide +kernel, rfl, by decide +kernel, by decide +kernel⟩
abbrev s__law_letters : Stmt := topS 43
theorem sc__law_letters : FnScope [] [] (defScope s__law_letters) := ⟨rfl, rfl, rfl, by decide +kernel, rfl, by decide +kernel, by decide +kernel⟩
abbrev s__law_single : Stmt := topS 58
theorem sc__law_single : FnScope ["_law_e", "_law_many_here"] ["_law_e"] (defScope s__law_single) := ⟨rfl, rfl, rfl, by decide +kernel, rfl, by decide +kernel, by decide +kernel⟩
abbrev s_check_name : Stmt := topS 18
theorem sc_check_name : FnScope ["name"] ["name"] (defScope s_check_name) := ⟨rfl, rfl, rfl, by decide +kernel, rfl, by decide +kernel, by decide +kernel⟩
abbrev s__law_draw : Stmt := topS 42
theorem sc__law_draw : FnScope ["_law_pool_here", "_law_limit", "_law_cell", "_law_digit"] ["_law_pool_here", "_law_limit"] (defScope s__law_draw) := ⟨rfl, rfl, rfl, by decide +kernel, rfl, by decide +kernel, by decide +kernel⟩
abbrev s__law_reason : Stmt := topS 59
theorem sc__law_reason : FnScope ["_law_e"] ["_law_e"] (defScope s__law_reason) := ⟨rfl, rfl, rfl, by decide +kernel, rfl, by decide +kernel, by decide +kernel⟩
abbrev s_check_cell : Stmt := topS 21
theorem sc_check_cell : FnScope ["cell", "book"] ["cell", "book"] (defScope s_check_cell) := ⟨rfl, rfl, rfl, by decide +kernel, rfl, by decide +kernel, by decide +kernel⟩
abbrev s_check_kind : Stmt := topS 34
theorem sc_check_kind : FnScope ["kind"] ["kind"] (defScope s_check_kind) := ⟨rfl, rfl, rfl, by decide +kernel, rfl, by decide +kernel, by decide +kernel⟩
abbrev s_Book_add_cell : Stmt := inClass (topS 38) 5
theorem sc_Book_add_cell : FnScope ["self", "name", "size"] ["self", "name", "size"] (defScope s_Book_add_cell) := ⟨rfl, rfl, rfl, by decide +kernel, rfl, by decide +kernel, by decide +kernel⟩
abbrev s__law_name : Stmt := topS 44
theorem sc__law_name : FnScope ["_law_pool_here", "_law_signs", "_law_name_here", "_law_more", "_law_k"] ["_law_pool_here"] (defScope s__law_name) := ⟨rfl, rfl, rfl, by decide +kernel, rfl, by decide +kernel, by decide +kernel⟩
abbrev s__law_number : Stmt := topS 46
theorem sc__law_number : FnScope ["_law_pool_here"] ["_law_pool_here"] (defScope s__law_number) := ⟨rfl, rfl, rfl, by decide +kernel, rfl, by decide +kernel, by decide +kernel⟩
abbrev s_check_argument : Stmt := topS 29
theorem sc_check_argument : FnScope ["book", "action", "argument", "word", "cell"] ["book", "action"] (defScope s_check_argument) := ⟨rfl, rfl, rfl, by decide +kernel, rfl, by decide +kernel, by decide +kernel⟩
abbrev s_with_step : Stmt := topS 36
theorem sc_with_step : FnScope ["steps", "name", "kind"] ["steps", "name", "kind"] (defScope s_with_step) := ⟨rfl, rfl, rfl, by decide +kernel, rfl, by decide +kernel, by decide +kernel⟩
abbrev s__law_fresh : Stmt := topS 45
theorem sc__law_fresh : FnScope ["_law_pool_here", "_law_used", "_law_name_here", "_law_sign"] ["_law_pool_here", "_law_used"] (defScope s__law_fresh) := ⟨rfl, rfl, rfl, by decide +kernel, rfl, by decide +kernel, by decide +kernel⟩
abbrev s__law_kind : Stmt := topS 47
theorem sc__law_kind : FnScope ["_law_pool_here", "_law_choice"] ["_law_pool_here"] (defScope s__law_kind) := ⟨rfl, rfl, rfl, by decide +kernel, rfl, by decide +kernel, by decide +kernel⟩
abbrev s__law_argument : Stmt := topS 50
theorem sc__law_argument : FnScope ["_law_pool_here", "_law_lore_here", "_law_late", "_law_choice", "_law_cell"] ["_law_pool_here", "_law_lore_here", "_law_late"] (defScope s__law_argument) := ⟨rfl, rfl, rfl, by decide +kernel, rfl, by decide +kernel, by decide +kernel⟩
abbrev s__law_fault : Stmt := topS 57
theorem sc__law_fault : FnScope ["_law_lore_here", "_law_action_here", "_law_depth", "_law_inner", "_law_guard", "_law_step", "_law_argument_here", "_law_further", "_law_fault_here", "_law_pair"] ["_law_lore_here", "_law_action_here", "_law_depth"] (defScope s__law_fault) := ⟨rfl, rfl, rfl, by decide +kernel, rfl, by decide +kernel, by decide +kernel⟩
abbrev s_Book___setitem__ : Stmt := inClass (topS 38) 8
theorem sc_Book___setitem__ : FnScope ["self", "name", "kind"] ["self", "name", "kind"] (defScope s_Book___setitem__) := ⟨rfl, rfl, rfl, by decide +kernel, rfl, by decide +kernel, by decide +kernel⟩
abbrev s__law_lore : Stmt := topS 48
theorem sc__law_lore : FnScope ["_law_pool_here", "_law_steps", "_law_cells", "_law_names", "_law_kinds", "_law_k", "_law_pairs", "_law_name_here", "_law_pair"] ["_law_pool_here", "_law_steps", "_law_cells"] (defScope s__law_lore) := ⟨rfl, rfl, rfl, by decide +kernel, rfl, by decide +kernel, by decide +kernel⟩
abbrev s__law_spoilt : Stmt := topS 55
theorem sc__law_spoilt : FnScope ["_law_pool_here", "_law_lore_here", "_law_action_here", "_law_way", "_law_plain", "_law_guard", "_law_step", "_law_argument_here", "_law_further", "_law_cell", "_law_deep", "_law_pair"] ["_law_pool_here", "_law_lore_here", "_law_action_here", "_law_way"] (defScope s__law_spoilt) := ⟨rfl, rfl, rfl, by decide +kernel, rfl, by decide +kernel, by decide +kernel⟩
abbrev s__law_book : Stmt := topS 49
theorem sc__law_book : FnScope ["_law_lore_here", "_law_book_here", "_law_name_here", "_law_pair"] ["_law_lore_here"] (defScope s__law_book) := ⟨rfl, rfl, rfl, by decide +kernel, rfl, by decide +kernel, by decide +kernel⟩
abbrev s_check_at_depth : Stmt := topS 28
theorem sc_check_at_depth : FnScope ["book", "action", "depth", "part", "guard", "step", "argument", "further"] ["book", "action", "depth"] (defScope s_check_at_depth) := ⟨rfl, rfl, rfl, by decide +kernel, rfl, by decide +kernel, by decide +kernel⟩
abbrev s__law_action : Stmt := topS 51
theorem sc__law_action : FnScope ["_law_pool_here", "_law_lore_here", "_law_depth", "_law_guard", "_law_step", "_law_argument_here", "_law_further", "_law_k"] ["_law_pool_here", "_law_lore_here", "_law_depth"] (defScope s__law_action) := ⟨rfl, rfl, rfl, by decide +kernel, rfl, by decide +kernel, by decide +kernel⟩
abbrev s_check_action : Stmt := topS 27
theorem sc_check_action : FnScope ["book", "action"] ["book", "action"] (defScope s_check_action) := ⟨rfl, rfl, rfl, by decide +kernel, rfl, by decide +kernel, by decide +kernel⟩
abbrev s__law_rich : Stmt := topS 53
theorem sc__law_rich : FnScope ["_law_pool_here", "_law_lore_here", "_law_further", "_law_k", "_law_step"] ["_law_pool_here", "_law_lore_here"] (defScope s__law_rich) := ⟨rfl, rfl, rfl, by decide +kernel, rfl, by decide +kernel, by decide +kernel⟩
abbrev s__law_outcome : Stmt := topS 60
theorem sc__law_outcome : FnScope ["_law_book_here", "_law_action_here", "_law_e"] ["_law_book_here", "_law_action_here"] (defScope s__law_outcome) := ⟨rfl, rfl, rfl, by decide +kernel, rfl, by decide +kernel, by decide +kernel⟩
abbrev s__law_many : Stmt := topS 54
theorem sc__law_many : FnScope ["_law_action_here", "_law_many_here", "_law_inner"] ["_law_action_here"] (defScope s__law_many) := ⟨rfl, rfl, rfl, by decide +kernel, rfl, by decide +kernel, by decide +kernel⟩
abbrev s__law_touched : Stmt := topS 56
theorem sc__law_touched : FnScope ["_law_pool_here", "_law_lore_here", "_law_action_here", "_law_spot", "_law_way", "_law_mine", "_law_further", "_law_inner"] ["_law_pool_here", "_law_lore_here", "_law_action_here", "_law_spot", "_law_way"] (defScope s__law_touched) := ⟨rfl, rfl, rfl, by decide +kernel, rfl, by decide +kernel, by decide +kernel⟩
abbrev s__law_same : Stmt := topS 52
theorem sc__law_same : FnScope ["_law_actual", "_law_expected", "_law_k"] ["_law_actual", "_law_expected"] (defScope s__law_same) := ⟨rfl, rfl, rfl, by decide +kernel, rfl, by decide +kernel, by decide +kernel⟩
abbrev s_law : Stmt := topS 61
theorem sc_law : FnScope ["_law_script", "_law_pool_here", "_law_lore_here", "_law_book_here", "_law_base", "_law_actions", "_law_way", "_law_action_here", "_law_due", "_law_spot"] ["_law_script"] (defScope s_law) := ⟨rfl, rfl, rfl, by decide +kernel, rfl, by decide +kernel, by decide +kernel⟩
theorem en_action : PySem.ExS.FnOk "action" := ⟨by decide, by decide, by decide, by decide⟩
theorem en_cell : PySem.ExS.FnOk "cell" := ⟨by decide, by decide, by decide, by decide⟩
theorem en_name : PySem.ExS.FnOk "name" := ⟨by decide, by decide, by decide, by decide⟩
theorem en_number : PySem.ExS.FnOk "number" := ⟨by decide, by decide, by decide, by decide⟩
theorem en_step : PySem.ExS.FnOk "step" := ⟨by decide, by decide, by decide, by decide⟩
structure Txt (P : Program) (K : PySem.W.Frag) (mg : Str → Option Value) (A : Ad) : Prop where
  n_ValueError : mg "ValueError" = none
  n_all : mg "all" = none
  n_bool : mg "bool" = none
  n_dict : mg "dict" = none
  n_int : mg "int" = none
  n_isinstance : mg "isinstance" = none
  n_len : mg "len" = none
  n_list : mg "list" = none
  n_range : mg "range" = none
  n_sorted : mg "sorted" = none
  n_str : mg "str" = none
  n_tuple : mg "tuple" = none
  g_CELL_SIZES : ∃ u, mg "CELL_SIZES" = some u ∧ RelV (.ref A.t_CELL_SIZES) u
  g_CELL_WORDS : ∃ u, mg "CELL_WORDS" = some u ∧ RelV (.ref A.t_CELL_WORDS) u
  g_GREATEST_DEPTH : ∃ u, mg "GREATEST_DEPTH" = some u ∧ RelV g_GREATEST_DEPTH u
  g_GREATEST_NUMBER : ∃ u, mg "GREATEST_NUMBER" = some u ∧ RelV g_GREATEST_NUMBER u
  g_GUARDS : ∃ u, mg "GUARDS" = some u ∧ RelV (.ref A.t_GUARDS) u
  g_KINDS_WITH_NAME : ∃ u, mg "KINDS_WITH_NAME" = some u ∧ RelV (.ref A.t_KINDS_WITH_NAME) u
  g_KINDS_WITH_NUMBER : ∃ u, mg "KINDS_WITH_NUMBER" = some u ∧ RelV (.ref A.t_KINDS_WITH_NUMBER) u
  g_LETTERS : ∃ u, mg "LETTERS" = some u ∧ RelV g_LETTERS u
  g_LETTERS_AND_DIGITS : ∃ u, mg "LETTERS_AND_DIGITS" = some u ∧ RelV g_LETTERS_AND_DIGITS u
  g_LONGEST_NAME : ∃ u, mg "LONGEST_NAME" = some u ∧ RelV g_LONGEST_NAME u
  g_MOST_FURTHER : ∃ u, mg "MOST_FURTHER" = some u ∧ RelV g_MOST_FURTHER u
  c_BadAction : mg "BadAction" = some (.ref A.c_BadAction)
  c_BadKind : mg "BadKind" = some (.ref A.c_BadKind)
  c_BadName : mg "BadName" = some (.ref A.c_BadName)
  c_BadNumber : mg "BadNumber" = some (.ref A.c_BadNumber)
  c_BadStatement : mg "BadStatement" = some (.ref A.c_BadStatement)
  c_Book : mg "Book" = some (.ref A.c_Book)
  c_Clash : mg "Clash" = some (.ref A.c_Clash)
  c_DeedError : mg "DeedError" = some (.ref A.c_DeedError)
  c_UnknownCell : mg "UnknownCell" = some (.ref A.c_UnknownCell)
  c_UnknownStep : mg "UnknownStep" = some (.ref A.c_UnknownStep)
  e_BadAction : PySem.ExS.ETxt P K mg "BadAction" "action" A.c_BadAction A.i_BadAction
  e_BadNumber : PySem.ExS.ETxt P K mg "BadNumber" "number" A.c_BadNumber A.i_BadNumber
  e_Clash : PySem.ExS.ETxt P K mg "Clash" "name" A.c_Clash A.i_Clash
  e_UnknownCell : PySem.ExS.ETxt P K mg "UnknownCell" "cell" A.c_UnknownCell A.i_UnknownCell
  e_UnknownStep : PySem.ExS.ETxt P K mg "UnknownStep" "step" A.c_UnknownStep A.i_UnknownStep
  k_Book : Cls K A.c_Book
  m_Book : MkC K mg "Book" A.c_Book
  q_Book : PySem.W.noSeq K A.c_Book = true
  r_Book : ClX.CRead K A.c_Book (.type "type")
  f_Book__sizes : NoAttr K A.c_Book "_sizes"
  f_Book__steps : NoAttr K A.c_Book "_steps"
  v_Book_CELLS : ∃ u, ClX.CVal K A.c_Book (.type "type") "CELLS" (.int 2) u
  v_Book_STEPS : ∃ u, ClX.CVal K A.c_Book (.type "type") "STEPS" (.int 12) u
section
variable {P : Program} {w : World} {K : PySem.W.Frag} {mg : Str → Option Value} {base : Heap} {A : Ad}
theorem ok_is_name (T : Txt P K mg A) (TX : Caught K A) (h : Has K mg "is_name" s_is_name ["text"]) : Cal P w K mg base CX0 1 "is_name" ["text"] (sp_is_name K A) := by
  refine h.ok (k := 0) sc_is_name (fun vs H Q E h => len1 h) fun f cdv A' outer s H vs Q E hr hsp => ⟨t_is_name K A, ?_, pure_is_name hsp⟩
  have hu_ := hu65 hr
  unfold t_is_name
  exact (pss_cons (ps_if (PW.pt (pw_or (pt_not (pt_chain op_oLe op_oLe pe_int (pe_callB call_cLen rfl T.n_len bi_len (pa_cons (pv 0) pa_nil)) (pe_gs rfl T.g_LONGEST_NAME))) (pw_or1 (pt_cmpR (op_oNotIn hu_) (pe_ix ix_oIx (pv 0) pe_int (fun _ _ => rfl)) (pe_gs rfl T.g_LETTERS) rfl))))
  (pss_one (ps_ret pe_bl))
  pss_nil)
  (pss_one (ps_ret (pe_callB (cr_all rfl) rfl T.n_all bi_all (pa_cons (pe_lc rfl sc_is_name.nd (own := [("letter", 1)]) (g := (gName 1)) (tt := tYes) (te := (tOp (oIn K) (tVar 1) (tC g_LETTERS_AND_DIGITS))) (pi_any (pv 0)) (blkOk_by (own := [("letter", 1)]) (N := ["text", "letter"]) (sc := defScope s_is_name) (by decide +kernel)) (fun _ _ _ _ _ => (pg_name (i := 1) sc_is_name.nd rfl (Or.inl rfl))) (fun _ _ _ _ _ => pts_nil) (fun _ _ _ _ _ => (pe_cmpR (op_oIn hu_) (pv 1) (pe_gs rfl T.g_LETTERS_AND_DIGITS) rfl))) pa_nil)))))
theorem ok_check_number (T : Txt P K mg A) (TX : Caught K A) (h : Has K mg "check_number" s_check_number ["number"]) : Cal P w K mg base (L2.CX P w) 1 "check_number" ["number"] (sp_check_number K A) := by
  refine h.okX (k := 0) sc_check_number (fun vs H Q E h => len1 h) fun f cdv A' outer s H vs Q E hr hsp => ⟨t_check_number K A E, ?_, pure_check_number hsp⟩
  unfold t_check_number
  exact (pss_cons (ps_if (pt_not (pt_chain op_oLe op_oLe pe_int (pv 0) (pe_gs rfl T.g_GREATEST_NUMBER)))
  (pss_one (ps_raiseE rfl T.e_BadNumber en_number hr (takes_of rfl rfl rfl rfl) (pa_cons (pv 0) pa_nil) rfl (by decide)))
  pss_nil)
  (pss_one (ps_ret (pv 0))))
theorem ok_at_most (T : Txt P K mg A) (TX : Caught K A) (h : Has K mg "at_most" s_at_most ["entries", "most"]) : Cal P w K mg base CX0 1 "at_most" ["entries", "most"] (sp_at_most K A) := by
  refine h.ok (k := 0) sc_at_most (fun vs H Q E h => len2 h) fun f cdv A' outer s H vs Q E hr hsp => ⟨t_at_most K A, ?_, pure_at_most hsp⟩
  unfold t_at_most
  exact (pss_cons (ps_if (pt_cmpR op_oGt (pe_callB call_cLenX rfl T.n_len bi_len (pa_cons (pv 0) pa_nil)) (pv 1) (nomark _))
  (pss_one ps_never)
  pss_nil)
  (pss_one (ps_ret (pv 0))))
theorem ok_Book_cells (T : Txt P K mg A) (TX : Caught K A) (h : PHas K A.c_Book "cells" "Book.cells" s_Book_cells ["self"]) : Prp P w K mg base CX0 1 A.c_Book "cells" (sp_Book_cells K A) := by
  refine h.ok (k := 0) sc_Book_cells (fun vs H Q E h => len1 h) fun f cdv A' outer s H vs Q E hr hsp => ⟨t_Book_cells K A, ?_, pure_Book_cells hsp⟩
  have hu_ := hu65 hr
  unfold t_Book_cells
  exact (pss_one (ps_ret (pe_callTy call_cTupF rfl T.n_tuple bi_tuple (pa_cons (pe_lc rfl sc_Book_cells.nd (own := [("name", 1)]) (g := (gName 1)) (tt := tYes) (te := (tTup (tCons (tVar 1) (tCons (tOp (oIxX K) (tFldC A.c_Book "_sizes" (tVar 0)) (tVar 1)) tNil)))) (pi_any (pe_callBK (cr_sortDK rfl (hu2 hu_)) rfl T.n_sorted bi_sorted (pa_cons (pe_fldC T.k_Book T.f_Book__sizes (pv 0)) pa_nil) (pk_cons (pe_bltn (v := .ty "str") rfl T.n_str bi_str rfl) pk_nil))) (blkOk_by (own := [("name", 1)]) (N := ["self", "name"]) (sc := defScope s_Book_cells) (by decide +kernel)) (fun _ _ _ _ _ => (pg_name (i := 1) sc_Book_cells.nd rfl (Or.inl rfl))) (fun _ _ _ _ _ => pts_nil) (fun _ _ _ _ _ => (pe_tup (pa_cons (pv 1) (pa_cons (pe_ix (ix_oIxX hu_) (pe_fldC T.k_Book T.f_Book__sizes (pv 0)) (pv 1) (fun _ _ => rfl)) pa_nil))))) pa_nil))))
theorem ok_Book___contains__ (T : Txt P K mg A) (TX : Caught K A) (h : MHas K A.c_Book "__contains__" "Book.__contains__" s_Book___contains__ ["self", "name"]) : MCal P w K mg base CX0 1 A.c_Book "__contains__" ["self", "name"] (sp_Book___contains__ K A) := by
  refine h.ok (k := 0) sc_Book___contains__ (fun vs H Q E h => len2 h) fun f cdv A' outer s H vs Q E hr hsp => ⟨t_Book___contains__ K A, ?_, pure_Book___contains__ hsp⟩
  have hu_ := hu65 hr
  unfold t_Book___contains__
  exact (pss_one (ps_ret (pe_cmpR (op_oInX hu_) (pv 1) (pe_fldC T.k_Book T.f_Book__steps (pv 0)) rfl)))
theorem ok_Book___init__ (T : Txt P K mg A) (TX : Caught K A) (h : MHas K A.c_Book "__init__" "Book.__init__" s_Book___init__ ["self"]) : MCal P w K mg base CX0 1 A.c_Book "__init__" ["self"] (sp_Book___init__ K A) := by
  refine h.ok (k := 0) sc_Book___init__ (fun vs H Q E h => len1 h) fun f cdv A' outer s H vs Q E hr hsp => ⟨t_Book___init__ K A, ?_, pure_Book___init__ hsp⟩
  unfold t_Book___init__
  exact (pss_cons (ps_fldC T.k_Book T.f_Book__steps (pv 0) pe_dnewK)
  (pss_one (ps_fldC T.k_Book T.f_Book__sizes (pv 0) pe_dnewK)))
theorem ok__law_pool (T : Txt P K mg A) (TX : Caught K A) (h : Has K mg "_law_pool" s__law_pool ["_law_script"]) : Cal P w K mg base CX0 1 "_law_pool" ["_law_script"] (sp__law_pool K A) := by
  refine h.ok (k := 0) sc__law_pool (fun vs H Q E h => len1 h) fun f cdv A' outer s H vs Q E hr hsp => ⟨t__law_pool K A, ?_, pure__law_pool hsp⟩
  unfold t__law_pool
  exact (pss_one (ps_ret (pe_lst (pa_cons (pe_callTy call_cList rfl T.n_list bi_list (pa_cons (pv 0) pa_nil)) (pa_cons pe_int (pa_cons pe_int (pa_cons pe_int (pa_cons pe_int pa_nil))))))))
theorem ok__law_mixed (T : Txt P K mg A) (TX : Caught K A) (h : Has K mg "_law_mixed" s__law_mixed ["_law_cell", "_law_turn", "_law_limit"]) : Cal P w K mg base CX0 1 "_law_mixed" ["_law_cell", "_law_turn", "_law_limit"] (sp__law_mixed K A) := by
  refine h.ok (k := 0) sc__law_mixed (fun vs H Q E h => len3 h) fun f cdv A' outer s H vs Q E hr hsp => ⟨t__law_mixed K A, ?_, pure__law_mixed hsp⟩
  unfold t__law_mixed
  exact (pss_cons (ps_set (i := 3) sc__law_mixed.nd rfl (Or.inl rfl) (pe_op op_oMod (pe_callTy call_cInt rfl T.n_int bi_int (pa_cons (pe_op op_oAdd (pe_op op_oAdd (pe_op op_oMul (pv 0) pe_int) (pe_op op_oMul (pv 1) pe_int)) pe_int) pa_nil)) pe_int))
  (pss_cons (ps_set (i := 4) sc__law_mixed.nd rfl (Or.inl rfl) (pe_op op_oMod (pe_callTy call_cInt rfl T.n_int bi_int (pa_cons (pe_op op_oAdd (pe_op op_oAdd (pe_op op_oMul (pv 3) pe_int) (pe_op op_oMul (pv 0) pe_int)) (pe_op op_oMul (pv 1) pe_int)) pa_nil)) pe_int))
  (pss_cons (ps_set (i := 5) sc__law_mixed.nd rfl (Or.inl rfl) (pe_op op_oMod (pe_callTy call_cInt rfl T.n_int bi_int (pa_cons (pe_op op_oAdd (pe_op op_oMul (pv 4) pe_int) (pe_op op_oDiv (pv 3) pe_int)) pa_nil)) pe_int))
  (pss_one (ps_ret (pe_op op_oMod (pe_callTy call_cInt rfl T.n_int bi_int (pa_cons (pv 5) pa_nil)) (pv 2)))))))
theorem ok__law_letters (T : Txt P K mg A) (TX : Caught K A) (h : Has K mg "_law_letters" s__law_letters []) : Cal P w K mg base CX0 1 "_law_letters" [] (sp__law_letters K A) := by
  refine h.ok (k := 0) sc__law_letters (fun vs H Q E h => len0 h) fun f cdv A' outer s H vs Q E hr hsp => ⟨t__law_letters K A, ?_, pure__law_letters hsp⟩
  unfold t__law_letters
  exact (pss_one (ps_ret pe_str))
theorem ok__law_single (T : Txt P K mg A) (TX : Caught K A) (h : Has K mg "_law_single" s__law_single ["_law_e"]) : CalX P w K mg base 1 "_law_single" ["_law_e"] (sp__law_single K A) := by
  refine h.okH (k := 0) sc__law_single (fun a cls d vs H Q E h => len1 h) fun f cdv A' outer s H vs Q E a oe cls d hr hz hf hsp => ⟨t__law_single K A a cls d, ?_, pure__law_single TX hsp⟩
  have hp : (a, oe) ∈ (L2H.cxH CX0 P w K mg base ["_law_e", "_law_many_here"] "_law_single" (defScope s__law_single) f cdv A' outer s H E (a, oe)).pn := List.mem_cons_self
  have hu_ : (A'.deeper (envOfC "_law_single" (defScope s__law_single) s.heap.objs.size f cdv)).units + 65 < cLine := by have := hr.un; omega
  unfold t__law_single
  exact (pss_cons (ps_set (i := 1) sc__law_single.nd rfl (Or.inl rfl) (pe_op op_oAdd (pe_op op_oAdd (pe_callTy call_cInt rfl T.n_int bi_int (pa_cons (pe_callB (call_isP hp hz hf) rfl T.n_isinstance bi_isinstance (pa_cons (pv 0) (pa_cons (pe_glob (v := .ref A.c_BadAction) rfl T.c_BadAction rfl) pa_nil))) pa_nil)) (pe_callTy call_cInt rfl T.n_int bi_int (pa_cons (pe_callB (call_isP hp hz hf) rfl T.n_isinstance bi_isinstance (pa_cons (pv 0) (pa_cons (pe_glob (v := .ref A.c_BadKind) rfl T.c_BadKind rfl) pa_nil))) pa_nil))) (pe_callTy call_cInt rfl T.n_int bi_int (pa_cons (pe_callB (call_isP hp hz hf) rfl T.n_isinstance bi_isinstance (pa_cons (pv 0) (pa_cons (pe_glob (v := .ref A.c_BadName) rfl T.c_BadName rfl) pa_nil))) pa_nil))))
  (pss_cons (ps_set (i := 1) sc__law_single.nd rfl (Or.inl rfl) (pe_op op_oAdd (pe_op op_oAdd (pv 1) (pe_callTy call_cInt rfl T.n_int bi_int (pa_cons (pe_callB (call_isP hp hz hf) rfl T.n_isinstance bi_isinstance (pa_cons (pv 0) (pa_cons (pe_glob (v := .ref A.c_BadNumber) rfl T.c_BadNumber rfl) pa_nil))) pa_nil))) (pe_callTy call_cInt rfl T.n_int bi_int (pa_cons (pe_callB (call_isP hp hz hf) rfl T.n_isinstance bi_isinstance (pa_cons (pv 0) (pa_cons (pe_glob (v := .ref A.c_BadStatement) rfl T.c_BadStatement rfl) pa_nil))) pa_nil))))
  (pss_cons (ps_set (i := 1) sc__law_single.nd rfl (Or.inl rfl) (pe_op op_oAdd (pe_op op_oAdd (pv 1) (pe_callTy call_cInt rfl T.n_int bi_int (pa_cons (pe_callB (call_isP hp hz hf) rfl T.n_isinstance bi_isinstance (pa_cons (pv 0) (pa_cons (pe_glob (v := .ref A.c_UnknownCell) rfl T.c_UnknownCell rfl) pa_nil))) pa_nil))) (pe_callTy call_cInt rfl T.n_int bi_int (pa_cons (pe_callB (call_isP hp hz hf) rfl T.n_isinstance bi_isinstance (pa_cons (pv 0) (pa_cons (pe_glob (v := .ref A.c_UnknownStep) rfl T.c_UnknownStep rfl) pa_nil))) pa_nil))))
  (pss_one (ps_ret (pe_and (pe_cmpR (op_oEq hu_) (pv 1) pe_int (nomark _)) (pe_and (pe_callB (call_isP hp hz hf) rfl T.n_isinstance bi_isinstance (pa_cons (pv 0) (pa_cons (pe_glob (v := .ref A.c_DeedError) rfl T.c_DeedError rfl) pa_nil))) (pe_one (pe_callB (call_isP hp hz hf) rfl T.n_isinstance bi_isinstance (pa_cons (pv 0) (pa_cons (pe_bltn (v := .ty "ValueError") rfl T.n_ValueError bi_ValueError rfl) pa_nil)))))))))))
theorem ok_check_name (T : Txt P K mg A) (TX : Caught K A) (h : Has K mg "check_name" s_check_name ["name"]) (c_is_name : Cal P w K mg base CX0 1 "is_name" ["text"] (sp_is_name K A)) : Cal P w K mg base CX0 2 "check_name" ["name"] (sp_check_name K A) := by
  refine h.ok (k := 1) sc_check_name (fun vs H Q E h => len1 h) fun f cdv A' outer s H vs Q E hr hsp => ⟨t_check_name K A, ?_, pure_check_name hsp⟩
  have hr_ : ∀ j, j ≤ 1 → Room j _ := fun j hj => hr.mono hj
  unfold t_check_name
  exact (pss_cons (ps_if (pt_not (pt_val (pe_fn c_is_name (hr_ 1 (by decide)) rfl (pa_cons (pv 0) pa_nil))))
  (pss_one ps_never)
  pss_nil)
  (pss_one (ps_ret (pv 0))))
theorem ok__law_draw (T : Txt P K mg A) (TX : Caught K A) (h : Has K mg "_law_draw" s__law_draw ["_law_pool_here", "_law_limit"]) (c__law_mixed : Cal P w K mg base CX0 1 "_law_mixed" ["_law_cell", "_law_turn", "_law_limit"] (sp__law_mixed K A)) : Cal P w K mg base CX0 2 "_law_draw" ["_law_pool_here", "_law_limit"] (sp__law_draw K A) := by
  refine h.ok (k := 1) sc__law_draw (fun vs H Q E h => len2 h) fun f cdv A' outer s H vs Q E hr hsp => ⟨t__law_draw K A, ?_, pure__law_draw hsp⟩
  have hr_ : ∀ j, j ≤ 1 → Room j _ := fun j hj => hr.mono hj
  unfold t__law_draw
  exact (pss_cons (ps_if (pt_cmpR op_oGt (pe_ix ix_oIx (pv 0) pe_int (fun _ _ => rfl)) pe_int (nomark _))
  (pss_cons (ps_set (i := 3) sc__law_draw.nd rfl (Or.inl rfl) (pe_op op_oMod (pe_callTy call_cInt rfl T.n_int bi_int (pa_cons (pe_ix ix_oIx (pv 0) pe_int (fun _ _ => rfl)) pa_nil)) (pv 1)))
  (pss_cons (ps_asg (pe_op op_oDiv (pe_ix ix_oIx (pv 0) pe_int (fun _ _ => rfl)) (pv 1)) (pg_sub (pv 0) pe_int set_list))
  (pss_one (ps_ret (pv 3)))))
  pss_nil)
  (pss_cons (ps_if (pt_cmpR op_oGt (pe_ix ix_oIx (pv 0) pe_int (fun _ _ => rfl)) pe_int (nomark _))
  (pss_cons (ps_asg (pe_op op_oSub (pe_ix ix_oIx (pv 0) pe_int (fun _ _ => rfl)) pe_int) (pg_sub (pv 0) pe_int set_list))
  (pss_one (ps_ret (pe_fn c__law_mixed (hr_ 1 (by decide)) rfl (pa_cons (pe_ix ix_oIx (pv 0) pe_int (fun _ _ => rfl)) (pa_cons (pe_ix ix_oIx (pv 0) pe_int (fun _ _ => rfl)) (pa_cons (pv 1) pa_nil)))))))
  pss_nil)
  (pss_cons (ps_if (pt_cmpR op_oGe (pe_ix ix_oIx (pv 0) pe_int (fun _ _ => rfl)) (pe_callB call_cLen rfl T.n_len bi_len (pa_cons (pe_ix ix_oIx (pv 0) pe_int (fun _ _ => rfl)) pa_nil)) (nomark _))
  (pss_one (ps_ret pe_int))
  pss_nil)
  (pss_cons (ps_set (i := 2) sc__law_draw.nd rfl (Or.inl rfl) (pe_ix ix_oIx (pe_ix ix_oIx (pv 0) pe_int (fun _ _ => rfl)) (pe_ix ix_oIx (pv 0) pe_int (fun _ _ => rfl)) (fun _ _ => rfl)))
  (pss_cons (ps_asg (pe_op op_oAdd (pe_ix ix_oIx (pv 0) pe_int (fun _ _ => rfl)) pe_int) (pg_sub (pv 0) pe_int set_list))
  (pss_cons (ps_if (pt_cmpR op_oLt (pv 2) pe_int (nomark _))
  (pss_one (ps_set (i := 2) sc__law_draw.nd rfl (Or.inl rfl) (pe_op op_oSub (pe_un un_oNeg pe_int) (pv 2))))
  pss_nil)
  (pss_cons (ps_if (pt_cmpR op_oGe (pv 2) (pe_op op_oPow pe_int pe_int) (nomark _))
  (pss_cons (ps_asg (pe_op op_oDiv (pv 2) (pv 1)) (pg_sub (pv 0) pe_int set_list))
  (pss_one (ps_ret (pe_op op_oMod (pe_callTy call_cInt rfl T.n_int bi_int (pa_cons (pv 2) pa_nil)) (pv 1)))))
  pss_nil)
  (pss_cons (ps_asg (pv 2) (pg_sub (pv 0) pe_int set_list))
  (pss_cons (ps_asg pe_int (pg_sub (pv 0) pe_int set_list))
  (pss_one (ps_ret (pe_fn c__law_mixed (hr_ 1 (by decide)) rfl (pa_cons (pv 2) (pa_cons pe_int (pa_cons (pv 1) pa_nil)))))))))))))))
theorem ok__law_reason (T : Txt P K mg A) (TX : Caught K A) (h : Has K mg "_law_reason" s__law_reason ["_law_e"]) (c__law_single : CalX P w K mg base 1 "_law_single" ["_law_e"] (sp__law_single K A)) : CalX P w K mg base 2 "_law_reason" ["_law_e"] (sp__law_reason K A) := by
  refine h.okH (k := 1) sc__law_reason (fun a cls d vs H Q E h => len1 h) fun f cdv A' outer s H vs Q E a oe cls d hr hz hf hsp => ⟨t__law_reason K A a cls d, ?_, pure__law_reason TX hsp⟩
  have hp : (a, oe) ∈ (L2H.cxH CX0 P w K mg base ["_law_e"] "_law_reason" (defScope s__law_reason) f cdv A' outer s H E (a, oe)).pn := List.mem_cons_self
  have hu_ : (A'.deeper (envOfC "_law_reason" (defScope s__law_reason) s.heap.objs.size f cdv)).units + 65 < cLine := by have := hr.un; omega
  have hrH_ : ∀ j, j ≤ 1 → L2H.RoomH j _ := fun j hj => hr.mono hj
  unfold t__law_reason
  exact (pss_cons (ps_if (pt_not (pt_val (pe_callXP hp c__law_single (hrH_ 1 (by decide)) hz hf rfl (pa_cons (pv 0) pa_nil))))
  (pss_one (ps_ret (pe_tup pa_nil)))
  pss_nil)
  (pss_cons (ps_if (pt_val (pe_callB (call_isP hp hz hf) rfl T.n_isinstance bi_isinstance (pa_cons (pv 0) (pa_cons (pe_glob (v := .ref A.c_BadAction) rfl T.c_BadAction rfl) pa_nil))))
  (pss_one (ps_ret (pe_tup (pa_cons pe_str (pa_cons (pe_xfP hp TX.xf_BadAction T.e_BadAction.noN hz hf (pv 0)) pa_nil)))))
  pss_nil)
  (pss_cons (ps_if (pt_val (pe_callB (call_isP hp hz hf) rfl T.n_isinstance bi_isinstance (pa_cons (pv 0) (pa_cons (pe_glob (v := .ref A.c_BadNumber) rfl T.c_BadNumber rfl) pa_nil))))
  (pss_one (ps_ret (pe_tup (pa_cons pe_str (pa_cons (pe_xfP hp TX.xf_BadNumber T.e_BadNumber.noN hz hf (pv 0)) pa_nil)))))
  pss_nil)
  (pss_cons (ps_if (pt_val (pe_callB (call_isP hp hz hf) rfl T.n_isinstance bi_isinstance (pa_cons (pv 0) (pa_cons (pe_glob (v := .ref A.c_UnknownCell) rfl T.c_UnknownCell rfl) pa_nil))))
  (pss_one (ps_ret (pe_tup (pa_cons pe_str (pa_cons (pe_xfP hp TX.xf_UnknownCell T.e_UnknownCell.noN hz hf (pv 0)) pa_nil)))))
  pss_nil)
  (pss_cons (ps_if (pt_val (pe_callB (call_isP hp hz hf) rfl T.n_isinstance bi_isinstance (pa_cons (pv 0) (pa_cons (pe_glob (v := .ref A.c_UnknownStep) rfl T.c_UnknownStep rfl) pa_nil))))
  (pss_one (ps_ret (pe_tup (pa_cons pe_str (pa_cons (pe_xfP hp TX.xf_UnknownStep T.e_UnknownStep.noN hz hf (pv 0)) pa_nil)))))
  pss_nil)
  (pss_one (ps_ret (pe_tup pa_nil))))))))
theorem ok_check_cell (T : Txt P K mg A) (TX : Caught K A) (h : Has K mg "check_cell" s_check_cell ["cell", "book"]) (c_Book_cells : Prp P w K mg base CX0 1 A.c_Book "cells" (sp_Book_cells K A)) : Cal P w K mg base (L2.CX P w) 3 "check_cell" ["cell", "book"] (sp_check_cell K A) := by
  refine h.okX (k := 2) sc_check_cell (fun vs H Q E h => len2 h) fun f cdv A' outer s H vs Q E hr hsp => ⟨t_check_cell K A E, ?_, pure_check_cell hsp⟩
  have hr_ : ∀ j, j ≤ 2 → Room j _ := fun j hj => hr.mono hj
  have hu_ := hu65 hr
  unfold t_check_cell
  exact (pss_one (ps_if (pt_cmpR (op_oNotInX hu_) (pv 0) (pe_callTy (call_dictT rfl) rfl T.n_dict bi_dict (pa_cons (pe_prp (pv 1) T.k_Book c_Book_cells (hr_ 2 (by decide)) pass0) pa_nil)) rfl)
  (pss_one (ps_raiseE rfl T.e_UnknownCell en_cell hr (takes_of rfl rfl rfl rfl) (pa_cons (pv 0) pa_nil) rfl (by decide)))
  pss_nil))
theorem ok_check_kind (T : Txt P K mg A) (TX : Caught K A) (h : Has K mg "check_kind" s_check_kind ["kind"]) (c_check_number : Cal P w K mg base (L2.CX P w) 1 "check_number" ["number"] (sp_check_number K A)) (c_check_name : Cal P w K mg base CX0 2 "check_name" ["name"] (sp_check_name K A)) : Cal P w K mg base CX0 3 "check_kind" ["kind"] (sp_check_kind K A) := by
  refine h.ok (k := 2) sc_check_kind (fun vs H Q E h => len1 h) fun f cdv A' outer s H vs Q E hr hsp => ⟨t_check_kind K A, ?_, pure_check_kind TX hsp⟩
  have hr_ : ∀ j, j ≤ 2 → Room j _ := fun j hj => hr.mono hj
  have hu_ := hu65 hr
  unfold t_check_kind
  exact (pss_cons (ps_if (pt_cmpR (op_oEq hu_) (pv 0) (pe_tup (pa_cons pe_str pa_nil)) (nomark _))
  (pss_one ps_retN)
  pss_nil)
  (pss_cons (ps_if (PW.pt (pw_or (pt_cmpR (op_oNe hu_) (pe_callB call_cLen rfl T.n_len bi_len (pa_cons (pv 0) pa_nil)) pe_int (nomark _)) (pw_or1 (pt_cmpR (op_oNotIn hu_) (pe_ix ix_oIx (pv 0) pe_int (fun _ _ => rfl)) (pe_op op_oAdd (pe_gs rfl T.g_KINDS_WITH_NUMBER) (pe_gs rfl T.g_KINDS_WITH_NAME)) rfl))))
  (pss_one ps_never)
  pss_nil)
  (pss_one (ps_if (pt_cmpR (op_oIn hu_) (pe_ix ix_oIx (pv 0) pe_int (fun _ _ => rfl)) (pe_gs rfl T.g_KINDS_WITH_NUMBER) rfl)
  (pss_one (ps_expr (pe_fnX c_check_number (hr_ 1 (by decide)) passN rfl (pa_cons (pe_ix ix_oIx (pv 0) pe_int (fun _ _ => rfl)) pa_nil))))
  (pss_one (ps_expr (pe_fn c_check_name (hr_ 2 (by decide)) rfl (pa_cons (pe_ix ix_oIx (pv 0) pe_int (fun _ _ => rfl)) pa_nil))))))))
theorem ok_Book_add_cell (T : Txt P K mg A) (TX : Caught K A) (h : MHas K A.c_Book "add_cell" "Book.add_cell" s_Book_add_cell ["self", "name", "size"]) (c_check_name : Cal P w K mg base CX0 2 "check_name" ["name"] (sp_check_name K A)) (c_at_most : Cal P w K mg base CX0 1 "at_most" ["entries", "most"] (sp_at_most K A)) : MCal P w K mg base CX0 3 A.c_Book "add_cell" ["self", "name", "size"] (sp_Book_add_cell K A) := by
  refine h.ok (k := 2) sc_Book_add_cell (fun vs H Q E h => len3 h) fun f cdv A' outer s H vs Q E hr hsp => ⟨t_Book_add_cell K A, ?_, pure_Book_add_cell TX hsp⟩
  have hr_ : ∀ j, j ≤ 2 → Room j _ := fun j hj => hr.mono hj
  have hu_ := hu65 hr
  obtain ⟨_, v_Book_CELLS⟩ := T.v_Book_CELLS
  unfold t_Book_add_cell
  exact (pss_cons (ps_expr (pe_fn c_check_name (hr_ 2 (by decide)) rfl (pa_cons (pv 1) pa_nil)))
  (pss_cons (ps_if (pt_cmpR (op_oNotInX hu_) (pv 2) (pe_gs rfl T.g_CELL_SIZES) rfl)
  (pss_one ps_never)
  pss_nil)
  (pss_cons (ps_if (pt_cmpR (op_oInX hu_) (pv 1) (pe_fldC T.k_Book T.f_Book__sizes (pv 0)) rfl)
  (pss_one ps_never)
  pss_nil)
  (pss_one (ps_fldC T.k_Book T.f_Book__sizes (pv 0) (pe_fn c_at_most (hr_ 1 (by decide)) rfl (pa_cons (pe_starKV (pe_fldC T.k_Book T.f_Book__sizes (pv 0)) (pv 1) (pv 2)) (pa_cons (pe_cst (pe_glob (v := .ref A.c_Book) rfl T.c_Book rfl) T.r_Book v_Book_CELLS) pa_nil))))))))
theorem ok__law_name (T : Txt P K mg A) (TX : Caught K A) (h : Has K mg "_law_name" s__law_name ["_law_pool_here"]) (c__law_letters : Cal P w K mg base CX0 1 "_law_letters" [] (sp__law_letters K A)) (c__law_draw : Cal P w K mg base CX0 2 "_law_draw" ["_law_pool_here", "_law_limit"] (sp__law_draw K A)) : Cal P w K mg base CX0 3 "_law_name" ["_law_pool_here"] (sp__law_name K A) := by
  refine h.ok (k := 2) sc__law_name (fun vs H Q E h => len1 h) fun f cdv A' outer s H vs Q E hr hsp => ⟨t__law_name K A, ?_, pure__law_name hsp⟩
  have hr_ : ∀ j, j ≤ 2 → Room j _ := fun j hj => hr.mono hj
  have hu_ := hu65 hr
  unfold t__law_name
  exact (pss_cons (ps_set (i := 1) sc__law_name.nd rfl (Or.inl rfl) (pe_op op_oAdd (pe_fn0 c__law_letters (hr_ 1 (by decide)) rfl) pe_str))
  (pss_cons (ps_set (i := 2) sc__law_name.nd rfl (Or.inl rfl) (pe_ix ix_oIx (pv 1) (pe_fn c__law_draw (hr_ 2 (by decide)) rfl (pa_cons (pv 0) (pa_cons pe_int pa_nil))) (fun _ _ => rfl)))
  (pss_cons (ps_set (i := 3) sc__law_name.nd rfl (Or.inl rfl) (pe_fn c__law_draw (hr_ 2 (by decide)) rfl (pa_cons (pv 0) (pa_cons pe_int pa_nil))))
  (pss_cons (ps_if (pt_cmpR (op_oEq hu_) (pe_fn c__law_draw (hr_ 2 (by decide)) rfl (pa_cons (pv 0) (pa_cons pe_int pa_nil))) pe_int (nomark _))
  (pss_one (ps_set (i := 3) sc__law_name.nd rfl (Or.inl rfl) (pe_fn c__law_draw (hr_ 2 (by decide)) rfl (pa_cons (pv 0) (pa_cons pe_int pa_nil)))))
  pss_nil)
  (pss_cons (ps_for PassesOwn.never rfl (pi_range1 rfl T.n_range (pa_cons (pv 3) pa_nil)) (pg_name (i := 4) sc__law_name.nd rfl (Or.inl rfl))
  (pss_one (ps_set (i := 2) sc__law_name.nd rfl (Or.inl rfl) (pe_op op_oAdd (pv 2) (pe_ix ix_oIx (pv 1) (pe_fn c__law_draw (hr_ 2 (by decide)) rfl (pa_cons (pv 0) (pa_cons pe_int pa_nil))) (fun _ _ => rfl))))))
  (pss_one (ps_ret (pv 2))))))))
theorem ok__law_number (T : Txt P K mg A) (TX : Caught K A) (h : Has K mg "_law_number" s__law_number ["_law_pool_here"]) (c__law_draw : Cal P w K mg base CX0 2 "_law_draw" ["_law_pool_here", "_law_limit"] (sp__law_draw K A)) : Cal P w K mg base CX0 3 "_law_number" ["_law_pool_here"] (sp__law_number K A) := by
  refine h.ok (k := 2) sc__law_number (fun vs H Q E h => len1 h) fun f cdv A' outer s H vs Q E hr hsp => ⟨t__law_number K A, ?_, pure__law_number hsp⟩
  have hr_ : ∀ j, j ≤ 2 → Room j _ := fun j hj => hr.mono hj
  have hu_ := hu65 hr
  unfold t__law_number
  exact (pss_cons (ps_if (pt_cmpR (op_oEq hu_) (pe_fn c__law_draw (hr_ 2 (by decide)) rfl (pa_cons (pv 0) (pa_cons pe_int pa_nil))) pe_int (nomark _))
  (pss_one (ps_ret (pe_fn c__law_draw (hr_ 2 (by decide)) rfl (pa_cons (pv 0) (pa_cons pe_int pa_nil)))))
  pss_nil)
  (pss_one (ps_ret (pe_fn c__law_draw (hr_ 2 (by decide)) rfl (pa_cons (pv 0) (pa_cons pe_int pa_nil))))))
theorem ok_check_argument (T : Txt P K mg A) (TX : Caught K A) (h : Has K mg "check_argument" s_check_argument ["book", "action"]) (c_check_number : Cal P w K mg base (L2.CX P w) 1 "check_number" ["number"] (sp_check_number K A)) (c_check_cell : Cal P w K mg base (L2.CX P w) 3 "check_cell" ["cell", "book"] (sp_check_cell K A)) : Cal P w K mg base (L2.CX P w) 4 "check_argument" ["book", "action"] (sp_check_argument K A) := by
  refine h.okX (k := 3) sc_check_argument (fun vs H Q E h => len2 h) fun f cdv A' outer s H vs Q E hr hsp => ⟨t_check_argument K A E, ?_, pure_check_argument TX hsp⟩
  have hr_ : ∀ j, j ≤ 3 → Room j _ := fun j hj => hr.mono hj
  have hu_ := hu65 hr
  unfold t_check_argument
  exact (pss_cons (ps_set (i := 2) sc_check_argument.nd rfl (Or.inl rfl) (pe_ix ix_oIx (pv 1) pe_int (fun _ _ => rfl)))
  (pss_cons (ps_if (pt_cmpR op_oIsN (pv 2) pe_non (nomark _))
  (pss_one ps_retN)
  pss_nil)
  (pss_cons (ps_if (pt_not (pt_val (pe_callB call_cIsi rfl T.n_isinstance bi_isinstance (pa_cons (pv 2) (pa_cons (pe_bltn (v := .ty "tuple") rfl T.n_tuple bi_tuple rfl) pa_nil)))))
  (pss_cons (ps_expr (pe_fnX c_check_number (hr_ 1 (by decide)) (passes_call (takes_of rfl rfl rfl rfl) fun _ _ _ _ h => h) rfl (pa_cons (pv 2) pa_nil)))
  (pss_one ps_retN))
  pss_nil)
  (pss_cons (ps_asg (pv 2) (pg_tup rfl (pgs_cons (pg_name (i := 3) sc_check_argument.nd rfl (Or.inl rfl)) (pgs_cons (pg_name (i := 4) sc_check_argument.nd rfl (Or.inl rfl)) pgs_nil))))
  (pss_cons (ps_if (pt_cmpR (op_oNotIn hu_) (pv 3) (pe_gs rfl T.g_CELL_WORDS) rfl)
  (pss_one (ps_raiseE rfl T.e_BadAction en_action hr (takes_of rfl rfl rfl rfl) (pa_cons (pv 1) pa_nil) rfl (by decide)))
  pss_nil)
  (pss_one (ps_expr (pe_fnX c_check_cell (hr_ 3 (by decide)) (passes_call (takes_of rfl rfl rfl rfl) fun _ _ _ _ h => h) rfl (pa_cons (pv 4) (pa_cons (pv 0) pa_nil))))))))))
theorem ok_with_step (T : Txt P K mg A) (TX : Caught K A) (h : Has K mg "with_step" s_with_step ["steps", "name", "kind"]) (c_check_name : Cal P w K mg base CX0 2 "check_name" ["name"] (sp_check_name K A)) (c_check_kind : Cal P w K mg base CX0 3 "check_kind" ["kind"] (sp_check_kind K A)) (c_at_most : Cal P w K mg base CX0 1 "at_most" ["entries", "most"] (sp_at_most K A)) : Cal P w K mg base CX0 4 "with_step" ["steps", "name", "kind"] (sp_with_step K A) := by
  refine h.ok (k := 3) sc_with_step (fun vs H Q E h => len3 h) fun f cdv A' outer s H vs Q E hr hsp => ⟨t_with_step K A, ?_, pure_with_step hsp⟩
  have hr_ : ∀ j, j ≤ 3 → Room j _ := fun j hj => hr.mono hj
  obtain ⟨_, v_Book_STEPS⟩ := T.v_Book_STEPS
  unfold t_with_step
  exact (pss_cons (ps_expr (pe_fn c_check_name (hr_ 2 (by decide)) rfl (pa_cons (pv 1) pa_nil)))
  (pss_cons (ps_expr (pe_fn c_check_kind (hr_ 3 (by decide)) rfl (pa_cons (pv 2) pa_nil)))
  (pss_one (ps_ret (pe_fn c_at_most (hr_ 1 (by decide)) rfl (pa_cons (pe_starKV (pv 0) (pv 1) (pv 2)) (pa_cons (pe_cst (pe_glob (v := .ref A.c_Book) rfl T.c_Book rfl) T.r_Book v_Book_STEPS) pa_nil)))))))
theorem ok__law_fresh (T : Txt P K mg A) (TX : Caught K A) (h : Has K mg "_law_fresh" s__law_fresh ["_law_pool_here", "_law_used"]) (c__law_name : Cal P w K mg base CX0 3 "_law_name" ["_law_pool_here"] (sp__law_name K A)) (c__law_letters : Cal P w K mg base CX0 1 "_law_letters" [] (sp__law_letters K A)) : Cal P w K mg base CX0 4 "_law_fresh" ["_law_pool_here", "_law_used"] (sp__law_fresh K A) := by
  refine h.ok (k := 3) sc__law_fresh (fun vs H Q E h => len2 h) fun f cdv A' outer s H vs Q E hr hsp => ⟨t__law_fresh K A, ?_, pure__law_fresh hsp⟩
  have hr_ : ∀ j, j ≤ 3 → Room j _ := fun j hj => hr.mono hj
  have hu_ := hu65 hr
  unfold t__law_fresh
  exact (pss_cons (ps_set (i := 2) sc__law_fresh.nd rfl (Or.inl rfl) (pe_fn c__law_name (hr_ 3 (by decide)) rfl (pa_cons (pv 0) pa_nil)))
  (pss_cons (ps_if (pt_cmpR (op_oNotIn hu_) (pv 2) (pv 1) rfl)
  (pss_one (ps_ret (pv 2)))
  pss_nil)
  (pss_cons (ps_for PassesOwn.never rfl (pi_any (pe_op op_oAdd (pe_fn0 c__law_letters (hr_ 1 (by decide)) rfl) pe_str)) (pg_name (i := 3) sc__law_fresh.nd rfl (Or.inl rfl))
  (pss_one (ps_if (pt_cmpR (op_oNotIn hu_) (pe_op op_oAdd (pe_slice sl_oSl (pv 2) po_none (po_some pe_int)) (pv 3)) (pv 1) rfl)
  (pss_one (ps_ret (pe_op op_oAdd (pe_slice sl_oSl (pv 2) po_none (po_some pe_int)) (pv 3))))
  pss_nil)))
  (pss_one (ps_ret (pv 2))))))
theorem ok__law_kind (T : Txt P K mg A) (TX : Caught K A) (h : Has K mg "_law_kind" s__law_kind ["_law_pool_here"]) (c__law_draw : Cal P w K mg base CX0 2 "_law_draw" ["_law_pool_here", "_law_limit"] (sp__law_draw K A)) (c__law_number : Cal P w K mg base CX0 3 "_law_number" ["_law_pool_here"] (sp__law_number K A)) (c__law_name : Cal P w K mg base CX0 3 "_law_name" ["_law_pool_here"] (sp__law_name K A)) : Cal P w K mg base CX0 4 "_law_kind" ["_law_pool_here"] (sp__law_kind K A) := by
  refine h.ok (k := 3) sc__law_kind (fun vs H Q E h => len1 h) fun f cdv A' outer s H vs Q E hr hsp => ⟨t__law_kind K A, ?_, pure__law_kind hsp⟩
  have hr_ : ∀ j, j ≤ 3 → Room j _ := fun j hj => hr.mono hj
  have hu_ := hu65 hr
  unfold t__law_kind
  exact (pss_cons (ps_set (i := 1) sc__law_kind.nd rfl (Or.inl rfl) (pe_fn c__law_draw (hr_ 2 (by decide)) rfl (pa_cons (pv 0) (pa_cons pe_int pa_nil))))
  (pss_cons (ps_if (pt_cmpR (op_oEq hu_) (pv 1) pe_int (nomark _))
  (pss_one (ps_ret (pe_tup (pa_cons pe_str (pa_cons (pe_fn c__law_number (hr_ 3 (by decide)) rfl (pa_cons (pv 0) pa_nil)) pa_nil)))))
  pss_nil)
  (pss_cons (ps_if (pt_cmpR (op_oEq hu_) (pv 1) pe_int (nomark _))
  (pss_one (ps_ret (pe_tup (pa_cons pe_str (pa_cons (pe_fn c__law_name (hr_ 3 (by decide)) rfl (pa_cons (pv 0) pa_nil)) pa_nil)))))
  pss_nil)
  (pss_cons (ps_if (PW.pt (pw_or (pt_cmpR (op_oEq hu_) (pv 1) pe_int (nomark _)) (pw_or1 (pt_cmpR (op_oEq hu_) (pv 1) pe_int (nomark _)))))
  (pss_one (ps_ret (pe_tup (pa_cons pe_str (pa_cons (pe_fn c__law_number (hr_ 3 (by decide)) rfl (pa_cons (pv 0) pa_nil)) pa_nil)))))
  pss_nil)
  (pss_cons (ps_if (pt_cmpR (op_oEq hu_) (pv 1) pe_int (nomark _))
  (pss_one (ps_ret (pe_tup (pa_cons pe_str (pa_cons (pe_fn c__law_name (hr_ 3 (by decide)) rfl (pa_cons (pv 0) pa_nil)) pa_nil)))))
  pss_nil)
  (pss_one (ps_ret (pe_tup (pa_cons pe_str pa_nil)))))))))
theorem ok__law_argument (T : Txt P K mg A) (TX : Caught K A) (h : Has K mg "_law_argument" s__law_argument ["_law_pool_here", "_law_lore_here", "_law_late"]) (c__law_draw : Cal P w K mg base CX0 2 "_law_draw" ["_law_pool_here", "_law_limit"] (sp__law_draw K A)) (c__law_number : Cal P w K mg base CX0 3 "_law_number" ["_law_pool_here"] (sp__law_number K A)) : Cal P w K mg base CX0 4 "_law_argument" ["_law_pool_here", "_law_lore_here", "_law_late"] (sp__law_argument K A) := by
  refine h.ok (k := 3) sc__law_argument (fun vs H Q E h => len3 h) fun f cdv A' outer s H vs Q E hr hsp => ⟨t__law_argument K A, ?_, pure__law_argument hsp⟩
  have hr_ : ∀ j, j ≤ 3 → Room j _ := fun j hj => hr.mono hj
  have hu_ := hu65 hr
  unfold t__law_argument
  exact (pss_cons (ps_set (i := 3) sc__law_argument.nd rfl (Or.inl rfl) (pe_fn c__law_draw (hr_ 2 (by decide)) rfl (pa_cons (pv 0) (pa_cons pe_int pa_nil))))
  (pss_cons (ps_if (PW.pt (pw_or (pt_cmpR (op_oEq hu_) (pv 3) pe_int (nomark _)) (pw_or1 (PW.pt (pw_and (pt_cmpR (op_oEq hu_) (pv 3) pe_int (nomark _)) (pw_and (pt_cmpR op_oGt (pe_callB call_cLen rfl T.n_len bi_len (pa_cons (pe_ix ix_oIx (pv 1) pe_int (fun _ _ => rfl)) pa_nil)) pe_int (nomark _)) (pw_and1 (pt_cmpR (op_oEq hu_) (pe_fn c__law_draw (hr_ 2 (by decide)) rfl (pa_cons (pv 0) (pa_cons pe_int pa_nil))) pe_int (nomark _)))))))))
  (pss_one (ps_ret pe_non))
  pss_nil)
  (pss_cons (ps_if (PW.pt (pw_or (pt_cmpR (op_oEq hu_) (pv 3) pe_int (nomark _)) (pw_or1 (pt_cmpR (op_oEq hu_) (pe_callB call_cLen rfl T.n_len bi_len (pa_cons (pe_ix ix_oIx (pv 1) pe_int (fun _ _ => rfl)) pa_nil)) pe_int (nomark _)))))
  (pss_one (ps_ret (pe_fn c__law_number (hr_ 3 (by decide)) rfl (pa_cons (pv 0) pa_nil))))
  pss_nil)
  (pss_cons (ps_set (i := 4) sc__law_argument.nd rfl (Or.inl rfl) (pe_ix ix_oIx (pe_ix ix_oIx (pe_ix ix_oIx (pv 1) pe_int (fun _ _ => rfl)) (pe_fn c__law_draw (hr_ 2 (by decide)) rfl (pa_cons (pv 0) (pa_cons (pe_callB call_cLen rfl T.n_len bi_len (pa_cons (pe_ix ix_oIx (pv 1) pe_int (fun _ _ => rfl)) pa_nil)) pa_nil))) (fun _ _ => rfl)) pe_int (fun _ _ => rfl)))
  (pss_cons (ps_if (PW.pt (pw_and (pt_val (pv 2)) (pw_and1 (pt_cmpR op_oGt (pe_fn c__law_draw (hr_ 2 (by decide)) rfl (pa_cons (pv 0) (pa_cons pe_int pa_nil))) pe_int (nomark _)))))
  (pss_one (ps_ret (pe_tup (pa_cons pe_str (pa_cons (pv 4) pa_nil)))))
  pss_nil)
  (pss_one (ps_ret (pe_tup (pa_cons pe_str (pa_cons (pv 4) pa_nil))))))))))
theorem rec__law_fault (T : Txt P K mg A) (TX : Caught K A) (h : Has K mg "_law_fault" s__law_fault ["_law_lore_here", "_law_action_here", "_law_depth"]) : ∀ n, Cal P w K mg base CX0 (n + 1) "_law_fault" ["_law_lore_here", "_law_action_here", "_law_depth"] (rec_law_fault K A n)
  | 0 => h.void (fun _ _ _ _ z => no_law_fault z)
  | n + 1 => by
    have c_rec := rec__law_fault T TX h n
    refine h.ok (k := n + 1) sc__law_fault (fun vs H Q E h => len3 h) fun f cdv A' outer s H vs Q E hr hsp => ⟨t__law_fault K A (rec_law_fault K A n), ?_, pure__law_fault hsp⟩
    have hu_ := hu65 hr
    unfold t__law_fault
    exact (pss_cons (ps_asg (pv 1) (pg_tup rfl (pgs_cons (pg_name (i := 4) sc__law_fault.nd rfl (Or.inl rfl)) (pgs_cons (pg_name (i := 5) sc__law_fault.nd rfl (Or.inl rfl)) (pgs_cons (pg_name (i := 6) sc__law_fault.nd rfl (Or.inl rfl)) (pgs_cons (pg_name (i := 7) sc__law_fault.nd rfl (Or.inl rfl)) pgs_nil))))))
  (pss_cons (ps_if (pt_cmpR (op_oNotIn hu_) (pv 4) (pe_tup (pa_cons pe_str (pa_cons pe_str (pa_cons pe_str pa_nil)))) rfl)
  (pss_one (ps_ret (pe_tup (pa_cons pe_str (pa_cons (pv 1) pa_nil)))))
  pss_nil)
  (pss_cons (ps_if (pt_cmpR (op_oNotIn hu_) (pv 5) (pe_ix ix_oIx (pv 0) pe_int (fun _ _ => rfl)) rfl)
  (pss_one (ps_ret (pe_tup (pa_cons pe_str (pa_cons (pv 5) pa_nil)))))
  pss_nil)
  (pss_cons (ps_if (pt_val (pe_callB call_cIsi rfl T.n_isinstance bi_isinstance (pa_cons (pv 6) (pa_cons (pe_bltn (v := .ty "tuple") rfl T.n_tuple bi_tuple rfl) pa_nil))))
  (pss_cons (ps_if (pt_cmpR (op_oNotIn hu_) (pe_ix ix_oIx (pv 6) pe_int (fun _ _ => rfl)) (pe_tup (pa_cons pe_str (pa_cons pe_str pa_nil))) rfl)
  (pss_one (ps_ret (pe_tup (pa_cons pe_str (pa_cons (pv 1) pa_nil)))))
  pss_nil)
  (pss_one (ps_if (pt_cmpR (op_oNotIn hu_) (pe_ix ix_oIx (pv 6) pe_int (fun _ _ => rfl)) (pe_lc rfl sc__law_fault.nd (own := [("_law_pair", 9)]) (g := (gName 9)) (tt := tYes) (te := (tOp (oIx K) (tVar 9) (tC (.int 0)))) (pi_any (pe_ix ix_oIx (pv 0) pe_int (fun _ _ => rfl))) (blkOk_by (own := [("_law_pair", 9)]) (N := ["_law_lore_here", "_law_action_here", "_law_depth", "_law_inner", "_law_guard", "_law_step", "_law_argument_here", "_law_further", "_law_fault_here", "_law_pair"]) (sc := defScope s__law_fault) (by decide +kernel)) (fun _ _ _ _ _ => (pg_name (i := 9) sc__law_fault.nd rfl (Or.inl rfl))) (fun _ _ _ _ _ => pts_nil) (fun _ _ _ _ _ => (pe_ix ix_oIx (pv 9) pe_int (fun _ _ => rfl)))) rfl)
  (pss_one (ps_ret (pe_tup (pa_cons pe_str (pa_cons (pe_ix ix_oIx (pv 6) pe_int (fun _ _ => rfl)) pa_nil)))))
  pss_nil)))
  (pss_one (ps_if (PW.pt (pw_and (pt_cmpR op_oNotN (pv 6) pe_non (nomark _)) (pw_and1 (pt_not (PW.pt (pw_and (pt_cmpR op_oLe pe_int (pv 6) (nomark _)) (pw_and1 (pt_cmpR op_oLe (pv 6) pe_int (nomark _)))))))))
  (pss_one (ps_ret (pe_tup (pa_cons pe_str (pa_cons (pv 6) pa_nil)))))
  pss_nil)))
  (pss_cons (ps_if (PW.pt (pw_or (pt_cmpR op_oGt (pe_callB call_cLen rfl T.n_len bi_len (pa_cons (pv 7) pa_nil)) pe_int (nomark _)) (pw_or1 (PW.pt (pw_and (pt_cmpR op_oGt (pe_callB call_cLen rfl T.n_len bi_len (pa_cons (pv 7) pa_nil)) pe_int (nomark _)) (pw_and1 (PW.pt (pw_or (pt_cmpR (op_oEq hu_) (pv 4) pe_str (nomark _)) (pw_or1 (pt_cmpR (op_oEq hu_) (pv 2) pe_int (nomark _)))))))))))
  (pss_one (ps_ret (pe_tup (pa_cons pe_str (pa_cons (pv 1) pa_nil)))))
  pss_nil)
  (pss_cons (ps_for PassesOwn.never rfl (pi_any (pv 7)) (pg_name (i := 3) sc__law_fault.nd rfl (Or.inl rfl))
  (pss_cons (ps_set (i := 8) sc__law_fault.nd rfl (Or.inl rfl) (pe_fn c_rec hr rfl (pa_cons (pv 0) (pa_cons (pv 3) (pa_cons (pe_op op_oAdd (pv 2) pe_int) pa_nil)))))
  (pss_one (ps_if (pt_cmpR op_oNotN (pv 8) pe_non (nomark _))
  (pss_one (ps_ret (pv 8)))
  pss_nil))))
  (pss_one (ps_ret pe_non))))))))
theorem ok__law_fault (T : Txt P K mg A) (TX : Caught K A) (h : Has K mg "_law_fault" s__law_fault ["_law_lore_here", "_law_action_here", "_law_depth"]) : Cal P w K mg base CX0 4 "_law_fault" ["_law_lore_here", "_law_action_here", "_law_depth"] (sp__law_fault K A) := rec__law_fault T TX h 3
theorem ok_Book___setitem__ (T : Txt P K mg A) (TX : Caught K A) (h : MHas K A.c_Book "__setitem__" "Book.__setitem__" s_Book___setitem__ ["self", "name", "kind"]) (c_with_step : Cal P w K mg base CX0 4 "with_step" ["steps", "name", "kind"] (sp_with_step K A)) : MCal P w K mg base CX0 5 A.c_Book "__setitem__" ["self", "name", "kind"] (sp_Book___setitem__ K A) := by
  refine h.ok (k := 4) sc_Book___setitem__ (fun vs H Q E h => len3 h) fun f cdv A' outer s H vs Q E hr hsp => ⟨t_Book___setitem__ K A, ?_, pure_Book___setitem__ hsp⟩
  have hr_ : ∀ j, j ≤ 4 → Room j _ := fun j hj => hr.mono hj
  unfold t_Book___setitem__
  exact (pss_one (ps_fldC T.k_Book T.f_Book__steps (pv 0) (pe_fn c_with_step (hr_ 4 (by decide)) rfl (pa_cons (pe_fldC T.k_Book T.f_Book__steps (pv 0)) (pa_cons (pv 1) (pa_cons (pv 2) pa_nil))))))
theorem ok__law_lore (T : Txt P K mg A) (TX : Caught K A) (h : Has K mg "_law_lore" s__law_lore ["_law_pool_here", "_law_steps", "_law_cells"]) (c__law_draw : Cal P w K mg base CX0 2 "_law_draw" ["_law_pool_here", "_law_limit"] (sp__law_draw K A)) (c__law_fresh : Cal P w K mg base CX0 4 "_law_fresh" ["_law_pool_here", "_law_used"] (sp__law_fresh K A)) (c__law_kind : Cal P w K mg base CX0 4 "_law_kind" ["_law_pool_here"] (sp__law_kind K A)) : Cal P w K mg base CX0 5 "_law_lore" ["_law_pool_here", "_law_steps", "_law_cells"] (sp__law_lore K A) := by
  refine h.ok (k := 4) sc__law_lore (fun vs H Q E h => len3 h) fun f cdv A' outer s H vs Q E hr hsp => ⟨t__law_lore K A, ?_, pure__law_lore hsp⟩
  have hr_ : ∀ j, j ≤ 4 → Room j _ := fun j hj => hr.mono hj
  have hu_ := hu65 hr
  unfold t__law_lore
  exact (pss_cons (ps_set (i := 3) sc__law_lore.nd rfl (Or.inl rfl) (pe_lst pa_nil))
  (pss_cons (ps_set (i := 4) sc__law_lore.nd rfl (Or.inl rfl) pe_dnewK)
  (pss_cons (ps_for PassesOwn.never rfl (pi_range1 rfl T.n_range (pa_cons (pe_op op_oAdd pe_int (pe_fn c__law_draw (hr_ 2 (by decide)) rfl (pa_cons (pv 0) (pa_cons (pv 1) pa_nil)))) pa_nil)) (pg_name (i := 5) sc__law_lore.nd rfl (Or.inl rfl))
  (pss_cons (ps_set (i := 7) sc__law_lore.nd rfl (Or.inl rfl) (pe_fn c__law_fresh (hr_ 4 (by decide)) rfl (pa_cons (pv 0) (pa_cons (pv 3) pa_nil))))
  (pss_cons (ps_expr (pe_bm PySem.F.plainAttrs_list PySem.F.slot_list_append PySem.F.type_list_append mt_append (pv 3) (pa_cons (pv 7) pa_nil)))
  (pss_one (ps_asg (pe_fn c__law_kind (hr_ 4 (by decide)) rfl (pa_cons (pv 0) pa_nil)) (pg_sub (pv 4) (pv 7) (set_X hu_)))))))
  (pss_cons (ps_set (i := 6) sc__law_lore.nd rfl (Or.inl rfl) (pe_lst pa_nil))
  (pss_cons (ps_for PassesOwn.never rfl (pi_range1 rfl T.n_range (pa_cons (pe_fn c__law_draw (hr_ 2 (by decide)) rfl (pa_cons (pv 0) (pa_cons (pe_op op_oAdd (pv 2) pe_int) pa_nil))) pa_nil)) (pg_name (i := 5) sc__law_lore.nd rfl (Or.inl rfl))
  (pss_cons (ps_set (i := 7) sc__law_lore.nd rfl (Or.inl rfl) (pe_fn c__law_fresh (hr_ 4 (by decide)) rfl (pa_cons (pv 0) (pa_cons (pe_lc rfl sc__law_lore.nd (own := [("_law_pair", 8)]) (g := (gName 8)) (tt := tYes) (te := (tOp (oIx K) (tVar 8) (tC (.int 0)))) (pi_any (pv 6)) (blkOk_by (own := [("_law_pair", 8)]) (N := ["_law_pool_here", "_law_steps", "_law_cells", "_law_names", "_law_kinds", "_law_k", "_law_pairs", "_law_name_here", "_law_pair"]) (sc := defScope s__law_lore) (by decide +kernel)) (fun _ _ _ _ _ => (pg_name (i := 8) sc__law_lore.nd rfl (Or.inl rfl))) (fun _ _ _ _ _ => pts_nil) (fun _ _ _ _ _ => (pe_ix ix_oIx (pv 8) pe_int (fun _ _ => rfl)))) pa_nil))))
  (pss_one (ps_expr (pe_bm PySem.F.plainAttrs_list PySem.F.slot_list_append PySem.F.type_list_append mt_append (pv 6) (pa_cons (pe_tup (pa_cons (pv 7) (pa_cons (pe_op op_oAdd pe_int (pe_fn c__law_draw (hr_ 2 (by decide)) rfl (pa_cons (pv 0) (pa_cons pe_int pa_nil)))) pa_nil))) pa_nil))))))
  (pss_cons (ps_if (PW.pt (pw_and (pt_cmpR (op_oEq hu_) (pe_callB call_cLen rfl T.n_len bi_len (pa_cons (pv 6) pa_nil)) pe_int (nomark _)) (pw_and1 (pt_cmpR op_oLtS (pe_ix ix_oIx (pe_ix ix_oIx (pv 6) pe_int (fun _ _ => rfl)) pe_int (fun _ _ => rfl)) (pe_ix ix_oIx (pe_ix ix_oIx (pv 6) pe_int (fun _ _ => rfl)) pe_int (fun _ _ => rfl)) (nomark _)))))
  (pss_one (ps_set (i := 6) sc__law_lore.nd rfl (Or.inl rfl) (pe_lst (pa_cons (pe_ix ix_oIx (pv 6) pe_int (fun _ _ => rfl)) (pa_cons (pe_ix ix_oIx (pv 6) pe_int (fun _ _ => rfl)) pa_nil)))))
  pss_nil)
  (pss_one (ps_ret (pe_lst (pa_cons (pv 3) (pa_cons (pv 4) (pa_cons (pv 6) pa_nil))))))))))))
theorem ok__law_spoilt (T : Txt P K mg A) (TX : Caught K A) (h : Has K mg "_law_spoilt" s__law_spoilt ["_law_pool_here", "_law_lore_here", "_law_action_here", "_law_way"]) (c__law_draw : Cal P w K mg base CX0 2 "_law_draw" ["_law_pool_here", "_law_limit"] (sp__law_draw K A)) (c__law_fresh : Cal P w K mg base CX0 4 "_law_fresh" ["_law_pool_here", "_law_used"] (sp__law_fresh K A)) (c__law_name : Cal P w K mg base CX0 3 "_law_name" ["_law_pool_here"] (sp__law_name K A)) : Cal P w K mg base CX0 5 "_law_spoilt" ["_law_pool_here", "_law_lore_here", "_law_action_here", "_law_way"] (sp__law_spoilt K A) := by
  refine h.ok (k := 4) sc__law_spoilt (fun vs H Q E h => len4 h) fun f cdv A' outer s H vs Q E hr hsp => ⟨t__law_spoilt K A, ?_, pure__law_spoilt hsp⟩
  have hr_ : ∀ j, j ≤ 4 → Room j _ := fun j hj => hr.mono hj
  have hu_ := hu65 hr
  unfold t__law_spoilt
  exact (pss_cons (ps_asg (pv 2) (pg_tup rfl (pgs_cons (pg_name (i := 5) sc__law_spoilt.nd rfl (Or.inl rfl)) (pgs_cons (pg_name (i := 6) sc__law_spoilt.nd rfl (Or.inl rfl)) (pgs_cons (pg_name (i := 7) sc__law_spoilt.nd rfl (Or.inl rfl)) (pgs_cons (pg_name (i := 8) sc__law_spoilt.nd rfl (Or.inl rfl)) pgs_nil))))))
  (pss_cons (ps_set (i := 4) sc__law_spoilt.nd rfl (Or.inl rfl) (pe_tup (pa_cons pe_str (pa_cons (pv 6) (pa_cons pe_non (pa_cons (pe_tup pa_nil) pa_nil))))))
  (pss_cons (ps_if (pt_cmpR (op_oEq hu_) (pv 3) pe_int (nomark _))
  (pss_one (ps_ret (pe_tup (pa_cons (pe_ix ix_oIx (pe_lst (pa_cons pe_str (pa_cons pe_str (pa_cons pe_str (pa_cons pe_str (pa_cons pe_str pa_nil)))))) (pe_fn c__law_draw (hr_ 2 (by decide)) rfl (pa_cons (pv 0) (pa_cons pe_int pa_nil))) (fun _ _ => rfl)) (pa_cons (pv 6) (pa_cons (pv 7) (pa_cons (pv 8) pa_nil)))))))
  pss_nil)
  (pss_cons (ps_if (pt_cmpR (op_oEq hu_) (pv 3) pe_int (nomark _))
  (pss_one (ps_ret (pe_tup (pa_cons (pv 5) (pa_cons (pe_fn c__law_fresh (hr_ 4 (by decide)) rfl (pa_cons (pv 0) (pa_cons (pe_ix ix_oIx (pv 1) pe_int (fun _ _ => rfl)) pa_nil))) (pa_cons (pv 7) (pa_cons (pv 8) pa_nil)))))))
  pss_nil)
  (pss_cons (ps_if (pt_cmpR (op_oEq hu_) (pv 3) pe_int (nomark _))
  (pss_one (ps_ret (pe_tup (pa_cons (pv 5) (pa_cons (pv 6) (pa_cons (pe_ix ix_oIx (pe_lst (pa_cons pe_int (pa_cons (pe_un un_oNeg pe_int) (pa_cons (pe_op op_oAddX pe_int (pe_fn c__law_draw (hr_ 2 (by decide)) rfl (pa_cons (pv 0) (pa_cons (pe_op op_oPow pe_int pe_int) pa_nil)))) pa_nil)))) (pe_fn c__law_draw (hr_ 2 (by decide)) rfl (pa_cons (pv 0) (pa_cons pe_int pa_nil))) (fun _ _ => rfl)) (pa_cons (pv 8) pa_nil)))))))
  pss_nil)
  (pss_cons (ps_if (pt_cmpR (op_oEq hu_) (pv 3) pe_int (nomark _))
  (pss_one (ps_ret (pe_tup (pa_cons (pv 5) (pa_cons (pv 6) (pa_cons (pe_tup (pa_cons (pe_ix ix_oIx (pe_lst (pa_cons pe_str (pa_cons pe_str (pa_cons pe_str (pa_cons pe_str pa_nil))))) (pe_fn c__law_draw (hr_ 2 (by decide)) rfl (pa_cons (pv 0) (pa_cons pe_int pa_nil))) (fun _ _ => rfl)) (pa_cons (pe_fn c__law_name (hr_ 3 (by decide)) rfl (pa_cons (pv 0) pa_nil)) pa_nil))) (pa_cons (pv 8) pa_nil)))))))
  pss_nil)
  (pss_cons (ps_if (pt_cmpR (op_oEq hu_) (pv 3) pe_int (nomark _))
  (pss_cons (ps_set (i := 9) sc__law_spoilt.nd rfl (Or.inl rfl) (pe_fn c__law_fresh (hr_ 4 (by decide)) rfl (pa_cons (pv 0) (pa_cons (pe_lc rfl sc__law_spoilt.nd (own := [("_law_pair", 11)]) (g := (gName 11)) (tt := tYes) (te := (tOp (oIx K) (tVar 11) (tC (.int 0)))) (pi_any (pe_ix ix_oIx (pv 1) pe_int (fun _ _ => rfl))) (blkOk_by (own := [("_law_pair", 11)]) (N := ["_law_pool_here", "_law_lore_here", "_law_action_here", "_law_way", "_law_plain", "_law_guard", "_law_step", "_law_argument_here", "_law_further", "_law_cell", "_law_deep", "_law_pair"]) (sc := defScope s__law_spoilt) (by decide +kernel)) (fun _ _ _ _ _ => (pg_name (i := 11) sc__law_spoilt.nd rfl (Or.inl rfl))) (fun _ _ _ _ _ => pts_nil) (fun _ _ _ _ _ => (pe_ix ix_oIx (pv 11) pe_int (fun _ _ => rfl)))) pa_nil))))
  (pss_one (ps_ret (pe_tup (pa_cons (pv 5) (pa_cons (pv 6) (pa_cons (pe_tup (pa_cons (pe_ix ix_oIx (pe_lst (pa_cons pe_str (pa_cons pe_str pa_nil))) (pe_fn c__law_draw (hr_ 2 (by decide)) rfl (pa_cons (pv 0) (pa_cons pe_int pa_nil))) (fun _ _ => rfl)) (pa_cons (pv 9) pa_nil))) (pa_cons (pv 8) pa_nil))))))))
  pss_nil)
  (pss_cons (ps_if (pt_cmpR (op_oEq hu_) (pv 3) pe_int (nomark _))
  (pss_one (ps_ret (pe_tup (pa_cons (pv 5) (pa_cons (pv 6) (pa_cons (pv 7) (pa_cons (pe_slice sl_tupA (pe_op op_oAddX (pv 8) (pe_tup (pa_cons (pv 4) (pa_cons (pv 4) (pa_cons (pv 4) (pa_cons (pv 4) pa_nil)))))) po_none (po_some pe_int)) pa_nil)))))))
  pss_nil)
  (pss_cons (ps_if (pt_cmpR (op_oEq hu_) (pv 3) pe_int (nomark _))
  (pss_one (ps_ret (pe_tup (pa_cons pe_str (pa_cons (pv 6) (pa_cons (pv 7) (pa_cons (pe_slice sl_tupA (pe_op op_oAddX (pv 8) (pe_tup (pa_cons (pv 4) pa_nil))) po_none (po_some pe_int)) pa_nil)))))))
  pss_nil)
  (pss_cons (ps_if (pt_cmpR (op_oEq hu_) (pv 3) pe_int (nomark _))
  (pss_cons (ps_set (i := 10) sc__law_spoilt.nd rfl (Or.inl rfl) (pe_tup (pa_cons pe_str (pa_cons (pv 6) (pa_cons pe_int (pa_cons (pe_tup (pa_cons (pv 4) pa_nil)) pa_nil))))))
  (pss_one (ps_ret (pe_tup (pa_cons (pv 5) (pa_cons (pv 6) (pa_cons (pv 7) (pa_cons (pe_slice sl_tupA (pe_op op_oAddX (pv 8) (pe_tup (pa_cons (pe_tup (pa_cons pe_str (pa_cons (pv 6) (pa_cons pe_non (pa_cons (pe_tup (pa_cons (pv 10) pa_nil)) pa_nil))))) pa_nil))) (po_some (pe_un un_oNeg pe_int)) po_none) pa_nil))))))))
  pss_nil)
  (pss_one (ps_ret (pe_tup (pa_cons (pv 5) (pa_cons (pv 6) (pa_cons (pv 7) (pa_cons (pe_slice sl_tupA (pe_op op_oAddX (pv 8) (pe_tup (pa_cons (pv 4) (pa_cons (pv 4) (pa_cons (pv 4) pa_nil))))) po_none (po_some pe_int)) pa_nil)))))))))))))))))
theorem ok__law_book (T : Txt P K mg A) (TX : Caught K A) (h : Has K mg "_law_book" s__law_book ["_law_lore_here"]) (c_Book___init__ : MCal P w K mg base CX0 1 A.c_Book "__init__" ["self"] (sp_Book___init__ K A)) (c_Book___setitem__ : MCal P w K mg base CX0 5 A.c_Book "__setitem__" ["self", "name", "kind"] (sp_Book___setitem__ K A)) (c_Book_add_cell : MCal P w K mg base CX0 3 A.c_Book "add_cell" ["self", "name", "size"] (sp_Book_add_cell K A)) : Cal P w K mg base CX0 6 "_law_book" ["_law_lore_here"] (sp__law_book K A) := by
  refine h.ok (k := 5) sc__law_book (fun vs H Q E h => len1 h) fun f cdv A' outer s H vs Q E hr hsp => ⟨t__law_book K A, ?_, pure__law_book hsp⟩
  have hr_ : ∀ j, j ≤ 5 → Room j _ := fun j hj => hr.mono hj
  have hu_ := hu65 hr
  unfold t__law_book
  exact (pss_cons (ps_set (i := 1) sc__law_book.nd rfl (Or.inl rfl) (pe_mk0 T.m_Book c_Book___init__ (hr_ 2 (by decide)) pass0 rfl))
  (pss_cons (ps_for PassesOwn.never rfl (pi_any (pe_ix (ix_oIxX hu_) (pv 0) pe_int (fun _ _ => rfl))) (pg_name (i := 2) sc__law_book.nd rfl (Or.inl rfl))
  (pss_one (ps_asg (pe_ix (ix_oIxX hu_) (pe_ix (ix_oIxX hu_) (pv 0) pe_int (fun _ _ => rfl)) (pv 2) (fun _ _ => rfl)) (pg_sub (pv 1) (pv 2) (set_own c_Book___setitem__ (hr_ 5 (by decide)) T.q_Book pass0)))))
  (pss_cons (ps_for PassesOwn.never rfl (pi_any (pe_ix (ix_oIxX hu_) (pv 0) pe_int (fun _ _ => rfl))) (pg_name (i := 3) sc__law_book.nd rfl (Or.inl rfl))
  (pss_one (ps_expr (pe_mth (pv 1) T.k_Book c_Book_add_cell (hr_ 3 (by decide)) pass0 (pa_cons (pe_ix (ix_oIxX hu_) (pv 3) pe_int (fun _ _ => rfl)) (pa_cons (pe_ix (ix_oIxX hu_) (pv 3) pe_int (fun _ _ => rfl)) pa_nil))))))
  (pss_one (ps_ret (pv 1))))))
theorem rec_check_at_depth (T : Txt P K mg A) (TX : Caught K A) (h : Has K mg "check_at_depth" s_check_at_depth ["book", "action", "depth"]) (c_Book___contains__ : MCal P w K mg base CX0 1 A.c_Book "__contains__" ["self", "name"] (sp_Book___contains__ K A)) (c_check_argument : Cal P w K mg base (L2.CX P w) 4 "check_argument" ["book", "action"] (sp_check_argument K A)) : ∀ n, Cal P w K mg base (L2.CX P w) (n + 4) "check_at_depth" ["book", "action", "depth"] (reccheck_at_depth K A n)
  | 0 => h.void (fun _ _ _ _ z => nocheck_at_depth z)
  | n + 1 => by
    have c_rec := rec_check_at_depth T TX h c_Book___contains__ c_check_argument n
    refine h.okX (k := n + 4) sc_check_at_depth (fun vs H Q E h => len3 h) fun f cdv A' outer s H vs Q E hr hsp => ⟨t_check_at_depth K A (reccheck_at_depth K A n) E, ?_, pure_check_at_depth TX hsp⟩
    have hr_ : ∀ j, j ≤ 4 → Room j _ := fun j hj => hr.mono (by omega)
    have hu_ := hu65 hr
    unfold t_check_at_depth
    exact (pss_cons (ps_asg (pv 1) (pg_tup rfl (pgs_cons (pg_name (i := 4) sc_check_at_depth.nd rfl (Or.inl rfl)) (pgs_cons (pg_name (i := 5) sc_check_at_depth.nd rfl (Or.inl rfl)) (pgs_cons (pg_name (i := 6) sc_check_at_depth.nd rfl (Or.inl rfl)) (pgs_cons (pg_name (i := 7) sc_check_at_depth.nd rfl (Or.inl rfl)) pgs_nil))))))
  (pss_cons (ps_if (pt_cmpR (op_oNotIn hu_) (pv 4) (pe_gs rfl T.g_GUARDS) rfl)
  (pss_one (ps_raiseE rfl T.e_BadAction en_action hr (takes_of rfl rfl rfl rfl) (pa_cons (pv 1) pa_nil) rfl (by decide)))
  pss_nil)
  (pss_cons (ps_if (pt_cmpR (op_notInO c_Book___contains__ (hr_ 1 (by decide)) pass0) (pv 5) (pv 0) rfl)
  (pss_one (ps_raiseE rfl T.e_UnknownStep en_step hr (takes_of rfl rfl rfl rfl) (pa_cons (pv 5) pa_nil) rfl (by decide)))
  pss_nil)
  (pss_cons (ps_expr (pe_fnX c_check_argument (hr_ 4 (by decide)) (passes_call (takes_of rfl rfl rfl rfl) fun _ _ _ _ h => h) rfl (pa_cons (pv 0) (pa_cons (pv 1) pa_nil))))
  (pss_cons (ps_if (PW.pt (pw_and (pt_tru (pv 7) (fun _ => rfl)) (pw_and1 (PW.pt (pw_or (pt_cmpR (op_oEq hu_) (pv 4) pe_str (nomark _)) (pw_or1 (pt_cmpR (op_oEq hu_) (pv 2) (pe_gs rfl T.g_GREATEST_DEPTH) (nomark _))))))))
  (pss_one (ps_raiseE rfl T.e_BadAction en_action hr (takes_of rfl rfl rfl rfl) (pa_cons (pv 1) pa_nil) rfl (by decide)))
  pss_nil)
  (pss_cons (ps_if (pt_cmpR op_oGt (pe_callB call_cLen rfl T.n_len bi_len (pa_cons (pv 7) pa_nil)) (pe_gs rfl T.g_MOST_FURTHER) (nomark _))
  (pss_one (ps_raiseE rfl T.e_BadAction en_action hr (takes_of rfl rfl rfl rfl) (pa_cons (pv 1) pa_nil) rfl (by decide)))
  pss_nil)
  (pss_one (ps_for (passes_of rfl) rfl (pi_any (pv 7)) (pg_name (i := 3) sc_check_at_depth.nd rfl (Or.inl rfl))
  (pss_one (ps_expr (pe_fnX c_rec hr (passes_call (takes_of rfl rfl rfl rfl) fun _ _ _ _ h => h) rfl (pa_cons (pv 0) (pa_cons (pv 3) (pa_cons (pe_op op_oAdd (pv 2) pe_int) pa_nil))))))))))))))
theorem ok_check_at_depth (T : Txt P K mg A) (TX : Caught K A) (h : Has K mg "check_at_depth" s_check_at_depth ["book", "action", "depth"]) (c_Book___contains__ : MCal P w K mg base CX0 1 A.c_Book "__contains__" ["self", "name"] (sp_Book___contains__ K A)) (c_check_argument : Cal P w K mg base (L2.CX P w) 4 "check_argument" ["book", "action"] (sp_check_argument K A)) : Cal P w K mg base (L2.CX P w) 7 "check_at_depth" ["book", "action", "depth"] (sp_check_at_depth K A) := rec_check_at_depth T TX h c_Book___contains__ c_check_argument 3
theorem rec__law_action (T : Txt P K mg A) (TX : Caught K A) (h : Has K mg "_law_action" s__law_action ["_law_pool_here", "_law_lore_here", "_law_depth"]) (c__law_draw : Cal P w K mg base CX0 2 "_law_draw" ["_law_pool_here", "_law_limit"] (sp__law_draw K A)) (c__law_argument : Cal P w K mg base CX0 4 "_law_argument" ["_law_pool_here", "_law_lore_here", "_law_late"] (sp__law_argument K A)) : ∀ n, Cal P w K mg base CX0 (n + 4) "_law_action" ["_law_pool_here", "_law_lore_here", "_law_depth"] (rec_law_action K A n)
  | 0 => h.void (fun _ _ _ _ z => no_law_action z)
  | n + 1 => by
    have c_rec := rec__law_action T TX h c__law_draw c__law_argument n
    refine h.ok (k := n + 4) sc__law_action (fun vs H Q E h => len3 h) fun f cdv A' outer s H vs Q E hr hsp => ⟨t__law_action K A (rec_law_action K A n), ?_, pure__law_action hsp⟩
    have hr_ : ∀ j, j ≤ 4 → Room j _ := fun j hj => hr.mono (by omega)
    have hu_ := hu65 hr
    unfold t__law_action
    exact (pss_cons (ps_set (i := 3) sc__law_action.nd rfl (Or.inl rfl) (pe_ix ix_oIx (pe_lst (pa_cons pe_str (pa_cons pe_str (pa_cons pe_str pa_nil)))) (pe_fn c__law_draw (hr_ 2 (by decide)) rfl (pa_cons (pv 0) (pa_cons pe_int pa_nil))) (fun _ _ => rfl)))
  (pss_cons (ps_set (i := 4) sc__law_action.nd rfl (Or.inl rfl) (pe_ix ix_oIx (pe_ix ix_oIx (pv 1) pe_int (fun _ _ => rfl)) (pe_fn c__law_draw (hr_ 2 (by decide)) rfl (pa_cons (pv 0) (pa_cons (pe_callB call_cLen rfl T.n_len bi_len (pa_cons (pe_ix ix_oIx (pv 1) pe_int (fun _ _ => rfl)) pa_nil)) pa_nil))) (fun _ _ => rfl)))
  (pss_cons (ps_set (i := 5) sc__law_action.nd rfl (Or.inl rfl) (pe_fn c__law_argument (hr_ 4 (by decide)) rfl (pa_cons (pv 0) (pa_cons (pv 1) (pa_cons pe_bl pa_nil)))))
  (pss_cons (ps_set (i := 6) sc__law_action.nd rfl (Or.inl rfl) (pe_tup pa_nil))
  (pss_cons (ps_if (PW.pt (pw_and (pt_cmpR (op_oNe hu_) (pv 3) pe_str (nomark _)) (pw_and (pt_cmpR op_oLt (pv 2) pe_int (nomark _)) (pw_and1 (pt_cmpR (op_oEq hu_) (pe_fn c__law_draw (hr_ 2 (by decide)) rfl (pa_cons (pv 0) (pa_cons pe_int pa_nil))) pe_int (nomark _))))))
  (pss_one (ps_for PassesOwn.never rfl (pi_range1 rfl T.n_range (pa_cons (pe_op op_oAddX pe_int (pe_fn c__law_draw (hr_ 2 (by decide)) rfl (pa_cons (pv 0) (pa_cons (pe_op op_oSub pe_int (pv 2)) pa_nil)))) pa_nil)) (pg_name (i := 7) sc__law_action.nd rfl (Or.inl rfl))
  (pss_one (ps_set (i := 6) sc__law_action.nd rfl (Or.inl rfl) (pe_op op_oAddX (pv 6) (pe_tup (pa_cons (pe_fn c_rec hr rfl (pa_cons (pv 0) (pa_cons (pv 1) (pa_cons (pe_op op_oAddX (pv 2) pe_int) pa_nil)))) pa_nil)))))))
  pss_nil)
  (pss_one (ps_ret (pe_tup (pa_cons (pv 3) (pa_cons (pv 4) (pa_cons (pv 5) (pa_cons (pv 6) pa_nil))))))))))))
theorem ok__law_action (T : Txt P K mg A) (TX : Caught K A) (h : Has K mg "_law_action" s__law_action ["_law_pool_here", "_law_lore_here", "_law_depth"]) (c__law_draw : Cal P w K mg base CX0 2 "_law_draw" ["_law_pool_here", "_law_limit"] (sp__law_draw K A)) (c__law_argument : Cal P w K mg base CX0 4 "_law_argument" ["_law_pool_here", "_law_lore_here", "_law_late"] (sp__law_argument K A)) : Cal P w K mg base CX0 7 "_law_action" ["_law_pool_here", "_law_lore_here", "_law_depth"] (sp__law_action K A) := rec__law_action T TX h c__law_draw c__law_argument 3
theorem ok_check_action (T : Txt P K mg A) (TX : Caught K A) (h : Has K mg "check_action" s_check_action ["book", "action"]) (c_check_at_depth : Cal P w K mg base (L2.CX P w) 7 "check_at_depth" ["book", "action", "depth"] (sp_check_at_depth K A)) : Cal P w K mg base (L2.CX P w) 8 "check_action" ["book", "action"] (sp_check_action K A) := by
  refine h.okX (k := 7) sc_check_action (fun vs H Q E h => len2 h) fun f cdv A' outer s H vs Q E hr hsp => ⟨t_check_action K A E, ?_, pure_check_action hsp⟩
  have hr_ : ∀ j, j ≤ 7 → Room j _ := fun j hj => hr.mono hj
  unfold t_check_action
  exact (pss_cons (ps_expr (pe_fnX c_check_at_depth (hr_ 7 (by decide)) (passes_call (takes_of rfl rfl rfl rfl) fun _ _ _ _ h => h) rfl (pa_cons (pv 0) (pa_cons (pv 1) (pa_cons pe_int pa_nil)))))
  (pss_one (ps_ret (pv 1))))
theorem ok__law_rich (T : Txt P K mg A) (TX : Caught K A) (h : Has K mg "_law_rich" s__law_rich ["_law_pool_here", "_law_lore_here"]) (c__law_draw : Cal P w K mg base CX0 2 "_law_draw" ["_law_pool_here", "_law_limit"] (sp__law_draw K A)) (c__law_action : Cal P w K mg base CX0 7 "_law_action" ["_law_pool_here", "_law_lore_here", "_law_depth"] (sp__law_action K A)) (c__law_argument : Cal P w K mg base CX0 4 "_law_argument" ["_law_pool_here", "_law_lore_here", "_law_late"] (sp__law_argument K A)) : Cal P w K mg base CX0 8 "_law_rich" ["_law_pool_here", "_law_lore_here"] (sp__law_rich K A) := by
  refine h.ok (k := 7) sc__law_rich (fun vs H Q E h => len2 h) fun f cdv A' outer s H vs Q E hr hsp => ⟨t__law_rich K A, ?_, pure__law_rich hsp⟩
  have hr_ : ∀ j, j ≤ 7 → Room j _ := fun j hj => hr.mono hj
  have hu_ := hu65 hr
  unfold t__law_rich
  exact (pss_cons (ps_if (pt_cmpR (op_oEq hu_) (pe_fn c__law_draw (hr_ 2 (by decide)) rfl (pa_cons (pv 0) (pa_cons pe_int pa_nil))) pe_int (nomark _))
  (pss_one (ps_ret (pe_fn c__law_action (hr_ 7 (by decide)) rfl (pa_cons (pv 0) (pa_cons (pv 1) (pa_cons pe_int pa_nil))))))
  pss_nil)
  (pss_cons (ps_set (i := 2) sc__law_rich.nd rfl (Or.inl rfl) (pe_tup pa_nil))
  (pss_cons (ps_for PassesOwn.never rfl (pi_range1 rfl T.n_range (pa_cons (pe_op op_oAddX pe_int (pe_fn c__law_draw (hr_ 2 (by decide)) rfl (pa_cons (pv 0) (pa_cons pe_int pa_nil)))) pa_nil)) (pg_name (i := 3) sc__law_rich.nd rfl (Or.inl rfl))
  (pss_one (ps_set (i := 2) sc__law_rich.nd rfl (Or.inl rfl) (pe_op op_oAddX (pv 2) (pe_tup (pa_cons (pe_fn c__law_action (hr_ 7 (by decide)) rfl (pa_cons (pv 0) (pa_cons (pv 1) (pa_cons pe_int pa_nil)))) pa_nil))))))
  (pss_cons (ps_set (i := 4) sc__law_rich.nd rfl (Or.inl rfl) (pe_ix ix_oIx (pe_ix ix_oIx (pv 1) pe_int (fun _ _ => rfl)) (pe_fn c__law_draw (hr_ 2 (by decide)) rfl (pa_cons (pv 0) (pa_cons (pe_callB call_cLen rfl T.n_len bi_len (pa_cons (pe_ix ix_oIx (pv 1) pe_int (fun _ _ => rfl)) pa_nil)) pa_nil))) (fun _ _ => rfl)))
  (pss_one (ps_ret (pe_tup (pa_cons (pe_ix ix_oIx (pe_lst (pa_cons pe_str (pa_cons pe_str pa_nil))) (pe_fn c__law_draw (hr_ 2 (by decide)) rfl (pa_cons (pv 0) (pa_cons pe_int pa_nil))) (fun _ _ => rfl)) (pa_cons (pv 4) (pa_cons (pe_fn c__law_argument (hr_ 4 (by decide)) rfl (pa_cons (pv 0) (pa_cons (pv 1) (pa_cons pe_bl pa_nil)))) (pa_cons (pv 2) pa_nil)))))))))))
theorem ok__law_outcome (T : Txt P K mg A) (TX : Caught K A) (h : Has K mg "_law_outcome" s__law_outcome ["_law_book_here", "_law_action_here"]) (c_check_action : Cal P w K mg base (L2.CX P w) 8 "check_action" ["book", "action"] (sp_check_action K A)) (c__law_reason : CalX P w K mg base 2 "_law_reason" ["_law_e"] (sp__law_reason K A)) : Cal P w K mg base CX0 9 "_law_outcome" ["_law_book_here", "_law_action_here"] (sp__law_outcome K A) := by
  refine h.ok (k := 8) sc__law_outcome (fun vs H Q E h => len2 h) fun f cdv A' outer s H vs Q E hr hsp => ⟨t__law_outcome K A, ?_, pure__law_outcome TX hsp⟩
  have hr_ : ∀ j, j ≤ 8 → Room j _ := fun j hj => hr.mono hj
  unfold t__law_outcome
  exact (pss_one (ps_try_as (i := 2) (c := .ref A.c_DeedError) (tb := fun W => (tRet (tTup (tCons (tC (.str "returned")) (tCons (tCallS (sp_check_action K A) (WE W) (tCons (tVar 0) (tCons (tVar 1) tNil))) tNil))))) (ts := (fun a cls d => (tRet (tCallX (sp__law_reason K A) a cls d (tCons (tVar 2) tNil))))) (Wout := (fun _ _ _ _ => False)) rfl rfl sc__law_outcome.nd rfl rfl ⟨rfl, by decide, Or.inl T.c_DeedError⟩ takes0 (fun W pn xe tk po => (pss_one (ps_ret (pe_tup (pa_cons pe_str (pa_cons (pe_fnS c_check_action (hr_ 8 (by decide)) tk rfl (pa_cons (pv 0) (pa_cons (pv 1) pa_nil))) pa_nil)))))) (fun a oe cls d pn hz hf => (pss_one (ps_ret (pe_callX c__law_reason (hr_ 2 (by decide)) hz hf rfl (pa_cons (pv 2) pa_nil)))))))
theorem rec__law_many (T : Txt P K mg A) (TX : Caught K A) (h : Has K mg "_law_many" s__law_many ["_law_action_here"]) : ∀ n, Cal P w K mg base CX0 (n + 1) "_law_many" ["_law_action_here"] (rec_law_many K A n)
  | 0 => h.void (fun _ _ _ _ z => no_law_many z)
  | n + 1 => by
    have c_rec := rec__law_many T TX h n
    refine h.ok (k := n + 1) sc__law_many (fun vs H Q E h => len1 h) fun f cdv A' outer s H vs Q E hr hsp => ⟨t__law_many K A (rec_law_many K A n), ?_, pure__law_many hsp⟩
    have hu_ := hu65 hr
    unfold t__law_many
    exact (pss_cons (ps_set (i := 1) sc__law_many.nd rfl (Or.inl rfl) pe_int)
  (pss_cons (ps_for PassesOwn.never rfl (pi_any (pe_ix ix_oIx (pv 0) pe_int (fun _ _ => rfl))) (pg_name (i := 2) sc__law_many.nd rfl (Or.inl rfl))
  (pss_one (ps_set (i := 1) sc__law_many.nd rfl (Or.inl rfl) (pe_op op_oAdd (pv 1) (pe_fn c_rec hr rfl (pa_cons (pv 2) pa_nil))))))
  (pss_one (ps_ret (pv 1)))))
theorem ok__law_many (T : Txt P K mg A) (TX : Caught K A) (h : Has K mg "_law_many" s__law_many ["_law_action_here"]) : Cal P w K mg base CX0 10 "_law_many" ["_law_action_here"] (sp__law_many K A) := rec__law_many T TX h 9
theorem rec__law_touched (T : Txt P K mg A) (TX : Caught K A) (h : Has K mg "_law_touched" s__law_touched ["_law_pool_here", "_law_lore_here", "_law_action_here", "_law_spot", "_law_way"]) (c__law_spoilt : Cal P w K mg base CX0 5 "_law_spoilt" ["_law_pool_here", "_law_lore_here", "_law_action_here", "_law_way"] (sp__law_spoilt K A)) : ∀ n, Cal P w K mg base CX0 (n + 5) "_law_touched" ["_law_pool_here", "_law_lore_here", "_law_action_here", "_law_spot", "_law_way"] (rec_law_touched K A n)
  | 0 => h.void (fun _ _ _ _ z => no_law_touched z)
  | n + 1 => by
    have c_rec := rec__law_touched T TX h c__law_spoilt n
    refine h.ok (k := n + 5) sc__law_touched (fun vs H Q E h => len5 h) fun f cdv A' outer s H vs Q E hr hsp => ⟨t__law_touched K A (rec_law_touched K A n), ?_, pure__law_touched hsp⟩
    have hr_ : ∀ j, j ≤ 5 → Room j _ := fun j hj => hr.mono (by omega)
    have hu_ := hu65 hr
    unfold t__law_touched
    exact (pss_cons (ps_set (i := 5) sc__law_touched.nd rfl (Or.inl rfl) (pe_ix ix_oIx (pv 3) pe_int (fun _ _ => rfl)))
  (pss_cons (ps_asg (pe_op op_oSub (pe_ix ix_oIx (pv 3) pe_int (fun _ _ => rfl)) pe_int) (pg_sub (pv 3) pe_int set_list))
  (pss_cons (ps_set (i := 6) sc__law_touched.nd rfl (Or.inl rfl) (pe_tup pa_nil))
  (pss_cons (ps_for PassesOwn.never rfl (pi_any (pe_ix ix_oIx (pv 2) pe_int (fun _ _ => rfl))) (pg_name (i := 7) sc__law_touched.nd rfl (Or.inl rfl))
  (pss_one (ps_set (i := 6) sc__law_touched.nd rfl (Or.inl rfl) (pe_op op_oAddX (pv 6) (pe_tup (pa_cons (pe_fn c_rec hr rfl (pa_cons (pv 0) (pa_cons (pv 1) (pa_cons (pv 7) (pa_cons (pv 3) (pa_cons (pv 4) pa_nil)))))) pa_nil))))))
  (pss_cons (ps_set (i := 2) sc__law_touched.nd rfl (Or.inl rfl) (pe_tup (pa_cons (pe_ix ix_oIx (pv 2) pe_int (fun _ _ => rfl)) (pa_cons (pe_ix ix_oIx (pv 2) pe_int (fun _ _ => rfl)) (pa_cons (pe_ix ix_oIx (pv 2) pe_int (fun _ _ => rfl)) (pa_cons (pv 6) pa_nil))))))
  (pss_cons (ps_if (pt_cmpR (op_oEq hu_) (pv 5) pe_int (nomark _))
  (pss_one (ps_ret (pe_fn c__law_spoilt (hr_ 5 (by decide)) rfl (pa_cons (pv 0) (pa_cons (pv 1) (pa_cons (pv 2) (pa_cons (pv 4) pa_nil)))))))
  pss_nil)
  (pss_one (ps_ret (pv 2)))))))))
theorem ok__law_touched (T : Txt P K mg A) (TX : Caught K A) (h : Has K mg "_law_touched" s__law_touched ["_law_pool_here", "_law_lore_here", "_law_action_here", "_law_spot", "_law_way"]) (c__law_spoilt : Cal P w K mg base CX0 5 "_law_spoilt" ["_law_pool_here", "_law_lore_here", "_law_action_here", "_law_way"] (sp__law_spoilt K A)) : Cal P w K mg base CX0 11 "_law_touched" ["_law_pool_here", "_law_lore_here", "_law_action_here", "_law_spot", "_law_way"] (sp__law_touched K A) := rec__law_touched T TX h c__law_spoilt 6
theorem rec__law_same (T : Txt P K mg A) (TX : Caught K A) (h : Has K mg "_law_same" s__law_same ["_law_actual", "_law_expected"]) : ∀ n, Cal P w K mg base CX0 (n + 1) "_law_same" ["_law_actual", "_law_expected"] (rec_law_same K A n)
  | 0 => h.void (fun _ _ _ _ z => no_law_same z)
  | n + 1 => by
    have c_rec := rec__law_same T TX h n
    refine h.ok (k := n + 1) sc__law_same (fun vs H Q E h => len2 h) fun f cdv A' outer s H vs Q E hr hsp => ⟨t__law_same K A (rec_law_same K A n), ?_, pure__law_same hsp⟩
    have hu_ := hu65 hr
    unfold t__law_same
    exact (pss_cons (ps_if (pt_cmpR op_oIsN (pv 1) pe_non (nomark _))
  (pss_one (ps_ret (pe_cmpR op_oIsN (pv 0) pe_non (nomark _))))
  pss_nil)
  (pss_cons (ps_if (pt_val (pe_callB call_cIsi rfl T.n_isinstance bi_isinstance (pa_cons (pv 1) (pa_cons (pe_bltn (v := .ty "bool") rfl T.n_bool bi_bool rfl) pa_nil))))
  (pss_one (ps_ret (pe_and (pe_callB call_cIsi rfl T.n_isinstance bi_isinstance (pa_cons (pv 0) (pa_cons (pe_bltn (v := .ty "bool") rfl T.n_bool bi_bool rfl) pa_nil))) (pe_one (pe_cmpR (op_oEq hu_) (pv 0) (pv 1) (nomark _))))))
  pss_nil)
  (pss_cons (ps_if (pt_val (pe_callB call_cIsi rfl T.n_isinstance bi_isinstance (pa_cons (pv 1) (pa_cons (pe_bltn (v := .ty "int") rfl T.n_int bi_int rfl) pa_nil))))
  (pss_one (ps_ret (pe_and (pe_callB call_cIsi rfl T.n_isinstance bi_isinstance (pa_cons (pv 0) (pa_cons (pe_bltn (v := .ty "int") rfl T.n_int bi_int rfl) pa_nil))) (pe_and (pe_not (pe_callB call_cIsi rfl T.n_isinstance bi_isinstance (pa_cons (pv 0) (pa_cons (pe_bltn (v := .ty "bool") rfl T.n_bool bi_bool rfl) pa_nil)))) (pe_one (pe_cmpR (op_oEq hu_) (pv 0) (pv 1) (nomark _)))))))
  pss_nil)
  (pss_cons (ps_if (pt_val (pe_callB call_cIsi rfl T.n_isinstance bi_isinstance (pa_cons (pv 1) (pa_cons (pe_bltn (v := .ty "str") rfl T.n_str bi_str rfl) pa_nil))))
  (pss_one (ps_ret (pe_and (pe_callB call_cIsi rfl T.n_isinstance bi_isinstance (pa_cons (pv 0) (pa_cons (pe_bltn (v := .ty "str") rfl T.n_str bi_str rfl) pa_nil))) (pe_one (pe_cmpR (op_oEq hu_) (pv 0) (pv 1) (nomark _))))))
  pss_nil)
  (pss_cons (ps_if (PW.pt (pw_and (pt_val (pe_callB call_cIsi rfl T.n_isinstance bi_isinstance (pa_cons (pv 1) (pa_cons (pe_bltn (v := .ty "tuple") rfl T.n_tuple bi_tuple rfl) pa_nil)))) (pw_and1 (pt_not (pt_val (pe_callB call_cIsi rfl T.n_isinstance bi_isinstance (pa_cons (pv 0) (pa_cons (pe_bltn (v := .ty "tuple") rfl T.n_tuple bi_tuple rfl) pa_nil))))))))
  (pss_one (ps_ret pe_bl))
  pss_nil)
  (pss_cons (ps_if (PW.pt (pw_and (pt_val (pe_callB call_cIsi rfl T.n_isinstance bi_isinstance (pa_cons (pv 1) (pa_cons (pe_bltn (v := .ty "list") rfl T.n_list bi_list rfl) pa_nil)))) (pw_and1 (pt_not (pt_val (pe_callB call_cIsi rfl T.n_isinstance bi_isinstance (pa_cons (pv 0) (pa_cons (pe_bltn (v := .ty "list") rfl T.n_list bi_list rfl) pa_nil))))))))
  (pss_one (ps_ret pe_bl))
  pss_nil)
  (pss_cons (ps_if (pt_cmpR (op_oNe hu_) (pe_callB call_cLen rfl T.n_len bi_len (pa_cons (pv 0) pa_nil)) (pe_callB call_cLen rfl T.n_len bi_len (pa_cons (pv 1) pa_nil)) (nomark _))
  (pss_one (ps_ret pe_bl))
  pss_nil)
  (pss_cons (ps_for PassesOwn.never rfl (pi_range1 rfl T.n_range (pa_cons (pe_callB call_cLen rfl T.n_len bi_len (pa_cons (pv 1) pa_nil)) pa_nil)) (pg_name (i := 2) sc__law_same.nd rfl (Or.inl rfl))
  (pss_one (ps_if (pt_not (pt_val (pe_fn c_rec hr rfl (pa_cons (pe_ix ix_oIx (pv 0) (pv 2) (fun _ _ => rfl)) (pa_cons (pe_ix ix_oIx (pv 1) (pv 2) (fun _ _ => rfl)) pa_nil)))))
  (pss_one (ps_ret pe_bl))
  pss_nil)))
  (pss_one (ps_ret pe_bl))))))))))
theorem ok__law_same (T : Txt P K mg A) (TX : Caught K A) (h : Has K mg "_law_same" s__law_same ["_law_actual", "_law_expected"]) : Cal P w K mg base CX0 25 "_law_same" ["_law_actual", "_law_expected"] (sp__law_same K A) := rec__law_same T TX h 24
theorem ok_law {f : Addr} {fd : FuncData} (F : Fun K "law" "law" s_law f fd) (T : Txt P K mg A) (TX : Caught K A) (c__law_pool : Cal P w K mg base CX0 1 "_law_pool" ["_law_script"] (sp__law_pool K A)) (c__law_lore : Cal P w K mg base CX0 5 "_law_lore" ["_law_pool_here", "_law_steps", "_law_cells"] (sp__law_lore K A)) (c__law_book : Cal P w K mg base CX0 6 "_law_book" ["_law_lore_here"] (sp__law_book K A)) (c__law_rich : Cal P w K mg base CX0 8 "_law_rich" ["_law_pool_here", "_law_lore_here"] (sp__law_rich K A)) (c__law_touched : Cal P w K mg base CX0 11 "_law_touched" ["_law_pool_here", "_law_lore_here", "_law_action_here", "_law_spot", "_law_way"] (sp__law_touched K A)) (c__law_draw : Cal P w K mg base CX0 2 "_law_draw" ["_law_pool_here", "_law_limit"] (sp__law_draw K A)) (c__law_many : Cal P w K mg base CX0 10 "_law_many" ["_law_action_here"] (sp__law_many K A)) (c__law_fault : Cal P w K mg base CX0 4 "_law_fault" ["_law_lore_here", "_law_action_here", "_law_depth"] (sp__law_fault K A)) (c__law_same : Cal P w K mg base CX0 25 "_law_same" ["_law_actual", "_law_expected"] (sp__law_same K A)) (c__law_outcome : Cal P w K mg base CX0 9 "_law_outcome" ["_law_book_here", "_law_action_here"] (sp__law_outcome K A)) : FnOk P w K mg base CX0 26 f fd ["_law_script"] (sp_law K A) := by
  refine F.ok (k := 25) sc_law (fun vs H Q E h => len1 h) fun cdv A' outer s H vs Q E hr hsp => ⟨t_law K A, ?_, pure_law hsp⟩
  have hr_ : ∀ j, j ≤ 25 → Room j _ := fun j hj => hr.mono hj
  have hu_ := hu65 hr
  unfold t_law
  exact (pss_cons (ps_set (i := 1) sc_law.nd rfl (Or.inl rfl) (pe_fn c__law_pool (hr_ 1 (by decide)) rfl (pa_cons (pv 0) pa_nil)))
  (pss_cons (ps_set (i := 2) sc_law.nd rfl (Or.inl rfl) (pe_fn c__law_lore (hr_ 5 (by decide)) rfl (pa_cons (pv 1) (pa_cons pe_int (pa_cons pe_int pa_nil)))))
  (pss_cons (ps_set (i := 3) sc_law.nd rfl (Or.inl rfl) (pe_fn c__law_book (hr_ 6 (by decide)) rfl (pa_cons (pv 2) pa_nil)))
  (pss_cons (ps_set (i := 4) sc_law.nd rfl (Or.inl rfl) (pe_fn c__law_rich (hr_ 8 (by decide)) rfl (pa_cons (pv 1) (pa_cons (pv 2) pa_nil))))
  (pss_cons (ps_set (i := 5) sc_law.nd rfl (Or.inl rfl) (pe_lst (pa_cons (pv 4) pa_nil)))
  (pss_cons (ps_for PassesOwn.never rfl (pi_range1 rfl T.n_range (pa_cons pe_int pa_nil)) (pg_name (i := 6) sc_law.nd rfl (Or.inl rfl))
  (pss_cons (ps_set (i := 7) sc_law.nd rfl (Or.inl rfl) (pe_fn c__law_touched (hr_ 11 (by decide)) rfl (pa_cons (pv 1) (pa_cons (pv 2) (pa_cons (pv 4) (pa_cons (pe_lst (pa_cons (pe_fn c__law_draw (hr_ 2 (by decide)) rfl (pa_cons (pv 1) (pa_cons (pe_fn c__law_many (hr_ 10 (by decide)) rfl (pa_cons (pv 4) pa_nil)) pa_nil))) pa_nil)) (pa_cons (pv 6) pa_nil)))))))
  (pss_cons (ps_if (pt_cmpR (op_oEq hu_) (pe_fn c__law_draw (hr_ 2 (by decide)) rfl (pa_cons (pv 1) (pa_cons pe_int pa_nil))) pe_int (nomark _))
  (pss_cons (ps_set (i := 9) sc_law.nd rfl (Or.inl rfl) (pe_lst (pa_cons (pe_fn c__law_draw (hr_ 2 (by decide)) rfl (pa_cons (pv 1) (pa_cons (pe_fn c__law_many (hr_ 10 (by decide)) rfl (pa_cons (pv 7) pa_nil)) pa_nil))) pa_nil)))
  (pss_one (ps_set (i := 7) sc_law.nd rfl (Or.inl rfl) (pe_fn c__law_touched (hr_ 11 (by decide)) rfl (pa_cons (pv 1) (pa_cons (pv 2) (pa_cons (pv 7) (pa_cons (pv 9) (pa_cons (pe_fn c__law_draw (hr_ 2 (by decide)) rfl (pa_cons (pv 1) (pa_cons pe_int pa_nil))) pa_nil)))))))))
  pss_nil)
  (pss_one (ps_expr (pe_bm PySem.F.plainAttrs_list PySem.F.slot_list_append PySem.F.type_list_append mt_append (pv 5) (pa_cons (pv 7) pa_nil)))))))
  (pss_cons (ps_for PassesOwn.never rfl (pi_any (pe_op op_oAdd (pv 5) (pe_lst (pa_cons (pv 4) pa_nil)))) (pg_name (i := 7) sc_law.nd rfl (Or.inl rfl))
  (pss_cons (ps_set (i := 8) sc_law.nd rfl (Or.inl rfl) (pe_fn c__law_fault (hr_ 4 (by decide)) rfl (pa_cons (pv 2) (pa_cons (pv 7) (pa_cons pe_int pa_nil)))))
  (pss_cons (ps_if (pt_cmpR op_oIsN (pv 8) pe_non (nomark _))
  (pss_one (ps_set (i := 8) sc_law.nd rfl (Or.inl rfl) (pe_tup (pa_cons pe_str (pa_cons (pv 7) pa_nil)))))
  pss_nil)
  (pss_one (ps_if (pt_not (pt_val (pe_fn c__law_same (hr_ 25 (by decide)) rfl (pa_cons (pe_fn c__law_outcome (hr_ 9 (by decide)) rfl (pa_cons (pv 3) (pa_cons (pv 7) pa_nil))) (pa_cons (pv 8) pa_nil)))))
  (pss_one (ps_ret pe_bl))
  pss_nil)))))
  (pss_one (ps_ret pe_bl)))))))))
end
theorem all_law {P : Program} {w : World} {K : PySem.W.Frag} {mg : Str → Option Value} {A : Ad} {fa : Addr} (hfa : mg "law" = some (.ref fa)) (T : Txt P K mg A) (TX : Caught K A)
    (h_is_name : Has K mg "is_name" s_is_name ["text"])
    (h_check_number : Has K mg "check_number" s_check_number ["number"])
    (h_at_most : Has K mg "at_most" s_at_most ["entries", "most"])
    (h_Book_cells : PHas K A.c_Book "cells" "Book.cells" s_Book_cells ["self"])
    (h_Book___contains__ : MHas K A.c_Book "__contains__" "Book.__contains__" s_Book___contains__ ["self", "name"])
    (h_Book___init__ : MHas K A.c_Book "__init__" "Book.__init__" s_Book___init__ ["self"])
    (h__law_pool : Has K mg "_law_pool" s__law_pool ["_law_script"])
    (h__law_mixed : Has K mg "_law_mixed" s__law_mixed ["_law_cell", "_law_turn", "_law_limit"])
    (h__law_letters : Has K mg "_law_letters" s__law_letters [])
    (h__law_single : Has K mg "_law_single" s__law_single ["_law_e"])
    (h_check_name : Has K mg "check_name" s_check_name ["name"])
    (h__law_draw : Has K mg "_law_draw" s__law_draw ["_law_pool_here", "_law_limit"])
    (h__law_reason : Has K mg "_law_reason" s__law_reason ["_law_e"])
    (h_check_cell : Has K mg "check_cell" s_check_cell ["cell", "book"])
    (h_check_kind : Has K mg "check_kind" s_check_kind ["kind"])
    (h_Book_add_cell : MHas K A.c_Book "add_cell" "Book.add_cell" s_Book_add_cell ["self", "name", "size"])
    (h__law_name : Has K mg "_law_name" s__law_name ["_law_pool_here"])
    (h__law_number : Has K mg "_law_number" s__law_number ["_law_pool_here"])
    (h_check_argument : Has K mg "check_argument" s_check_argument ["book", "action"])
    (h_with_step : Has K mg "with_step" s_with_step ["steps", "name", "kind"])
    (h__law_fresh : Has K mg "_law_fresh" s__law_fresh ["_law_pool_here", "_law_used"])
    (h__law_kind : Has K mg "_law_kind" s__law_kind ["_law_pool_here"])
    (h__law_argument : Has K mg "_law_argument" s__law_argument ["_law_pool_here", "_law_lore_here", "_law_late"])
    (h__law_fault : Has K mg "_law_fault" s__law_fault ["_law_lore_here", "_law_action_here", "_law_depth"])
    (h_Book___setitem__ : MHas K A.c_Book "__setitem__" "Book.__setitem__" s_Book___setitem__ ["self", "name", "kind"])
    (h__law_lore : Has K mg "_law_lore" s__law_lore ["_law_pool_here", "_law_steps", "_law_cells"])
    (h__law_spoilt : Has K mg "_law_spoilt" s__law_spoilt ["_law_pool_here", "_law_lore_here", "_law_action_here", "_law_way"])
    (h__law_book : Has K mg "_law_book" s__law_book ["_law_lore_here"])
    (h_check_at_depth : Has K mg "check_at_depth" s_check_at_depth ["book", "action", "depth"])
    (h__law_action : Has K mg "_law_action" s__law_action ["_law_pool_here", "_law_lore_here", "_law_depth"])
    (h_check_action : Has K mg "check_action" s_check_action ["book", "action"])
    (h__law_rich : Has K mg "_law_rich" s__law_rich ["_law_pool_here", "_law_lore_here"])
    (h__law_outcome : Has K mg "_law_outcome" s__law_outcome ["_law_book_here", "_law_action_here"])
    (h__law_many : Has K mg "_law_many" s__law_many ["_law_action_here"])
    (h__law_touched : Has K mg "_law_touched" s__law_touched ["_law_pool_here", "_law_lore_here", "_law_action_here", "_law_spot", "_law_way"])
    (h__law_same : Has K mg "_law_same" s__law_same ["_law_actual", "_law_expected"])
    (h_law : Has K mg "law" s_law ["_law_script"])
    : ∃ fd : FuncData, (∀ (s : Shared) (u : Value), BindsTo s fd ⟨[u], []⟩ [("_law_script", u)]) ∧ ∀ base : Heap, K.In base → base.Ns mainGlobals mg → FnOk P w K mg base CX0 26 fa fd ["_law_script"] (sp_law K A) := by
  refine law_end h_law hfa fun base hi hn f fd F => ?_
  have c_is_name := ok_is_name (P := P) (w := w) (base := base) T TX h_is_name
  have c_check_number := ok_check_number (P := P) (w := w) (base := base) T TX h_check_number
  have c_at_most := ok_at_most (P := P) (w := w) (base := base) T TX h_at_most
  have c_Book_cells := ok_Book_cells (P := P) (w := w) (base := base) T TX h_Book_cells
  have c_Book___contains__ := ok_Book___contains__ (P := P) (w := w) (base := base) T TX h_Book___contains__
  have c_Book___init__ := ok_Book___init__ (P := P) (w := w) (base := base) T TX h_Book___init__
  have c__law_pool := ok__law_pool (P := P) (w := w) (base := base) T TX h__law_pool
  have c__law_mixed := ok__law_mixed (P := P) (w := w) (base := base) T TX h__law_mixed
  have c__law_letters := ok__law_letters (P := P) (w := w) (base := base) T TX h__law_letters
  have c__law_single := ok__law_single (P := P) (w := w) (base := base) T TX h__law_single
  have c_check_name := ok_check_name (P := P) (w := w) (base := base) T TX h_check_name c_is_name
  have c__law_draw := ok__law_draw (P := P) (w := w) (base := base) T TX h__law_draw c__law_mixed
  have c__law_reason := ok__law_reason (P := P) (w := w) (base := base) T TX h__law_reason c__law_single
  have c_check_cell := ok_check_cell (P := P) (w := w) (base := base) T TX h_check_cell c_Book_cells
  have c_check_kind := ok_check_kind (P := P) (w := w) (base := base) T TX h_check_kind c_check_number c_check_name
  have c_Book_add_cell := ok_Book_add_cell (P := P) (w := w) (base := base) T TX h_Book_add_cell c_check_name c_at_most
  have c__law_name := ok__law_name (P := P) (w := w) (base := base) T TX h__law_name c__law_letters c__law_draw
  have c__law_number := ok__law_number (P := P) (w := w) (base := base) T TX h__law_number c__law_draw
  have c_check_argument := ok_check_argument (P := P) (w := w) (base := base) T TX h_check_argument c_check_number c_check_cell
  have c_with_step := ok_with_step (P := P) (w := w) (base := base) T TX h_with_step c_check_name c_check_kind c_at_most
  have c__law_fresh := ok__law_fresh (P := P) (w := w) (base := base) T TX h__law_fresh c__law_name c__law_letters
  have c__law_kind := ok__law_kind (P := P) (w := w) (base := base) T TX h__law_kind c__law_draw c__law_number c__law_name
  have c__law_argument := ok__law_argument (P := P) (w := w) (base := base) T TX h__law_argument c__law_draw c__law_number
  have c__law_fault := ok__law_fault (P := P) (w := w) (base := base) T TX h__law_fault
  have c_Book___setitem__ := ok_Book___setitem__ (P := P) (w := w) (base := base) T TX h_Book___setitem__ c_with_step
  have c__law_lore := ok__law_lore (P := P) (w := w) (base := base) T TX h__law_lore c__law_draw c__law_fresh c__law_kind
  have c__law_spoilt := ok__law_spoilt (P := P) (w := w) (base := base) T TX h__law_spoilt c__law_draw c__law_fresh c__law_name
  have c__law_book := ok__law_book (P := P) (w := w) (base := base) T TX h__law_book c_Book___init__ c_Book___setitem__ c_Book_add_cell
  have c_check_at_depth := ok_check_at_depth (P := P) (w := w) (base := base) T TX h_check_at_depth c_Book___contains__ c_check_argument
  have c__law_action := ok__law_action (P := P) (w := w) (base := base) T TX h__law_action c__law_draw c__law_argument
  have c_check_action := ok_check_action (P := P) (w := w) (base := base) T TX h_check_action c_check_at_depth
  have c__law_rich := ok__law_rich (P := P) (w := w) (base := base) T TX h__law_rich c__law_draw c__law_action c__law_argument
  have c__law_outcome := ok__law_outcome (P := P) (w := w) (base := base) T TX h__law_outcome c_check_action c__law_reason
  have c__law_many := ok__law_many (P := P) (w := w) (base := base) T TX h__law_many
  have c__law_touched := ok__law_touched (P := P) (w := w) (base := base) T TX h__law_touched c__law_spoilt
  have c__law_same := ok__law_same (P := P) (w := w) (base := base) T TX h__law_same
  exact ok_law F T TX c__law_pool c__law_lore c__law_book c__law_rich c__law_touched c__law_draw c__law_many c__law_fault c__law_same c__law_outcome
theorem all_mk {P : Program} {w : World} {K : PySem.W.Frag} {h : Heap} {mg : Str → Option Value} {fa : Addr} (X : K.In h) (G : h.Ns mainGlobals mg) (hfa : mg "law" = some (.ref fa))
    (n_ValueError : PySem.W.nsIn K mainGlobals "ValueError" = some none)
    (n_all : PySem.W.nsIn K mainGlobals "all" = some none)
    (n_bool : PySem.W.nsIn K mainGlobals "bool" = some none)
    (n_dict : PySem.W.nsIn K mainGlobals "dict" = some none)
    (n_int : PySem.W.nsIn K mainGlobals "int" = some none)
    (n_isinstance : PySem.W.nsIn K mainGlobals "isinstance" = some none)
    (n_len : PySem.W.nsIn K mainGlobals "len" = some none)
    (n_list : PySem.W.nsIn K mainGlobals "list" = some none)
    (n_range : PySem.W.nsIn K mainGlobals "range" = some none)
    (n_sorted : PySem.W.nsIn K mainGlobals "sorted" = some none)
    (n_str : PySem.W.nsIn K mainGlobals "str" = some none)
    (n_tuple : PySem.W.nsIn K mainGlobals "tuple" = some none)
    {t_CELL_SIZES : Addr} {o_CELL_SIZES : Obj} {is_CELL_SIZES : Array Value} {nn_CELL_SIZES : Nat}
    (z_CELL_SIZES : PySem.W.nsIn K mainGlobals "CELL_SIZES" = some (some (.ref t_CELL_SIZES)))
    (l_CELL_SIZES : K.lookup t_CELL_SIZES = some o_CELL_SIZES)
    (lc_CELL_SIZES : o_CELL_SIZES.cls = .type "tuple")
    (ld_CELL_SIZES : o_CELL_SIZES.data = .seq is_CELL_SIZES nn_CELL_SIZES)
    (lz_CELL_SIZES : is_CELL_SIZES.size ≤ sizeLine)
    (lv_CELL_SIZES : Vals [V.int 2, V.int 3] is_CELL_SIZES.toList)
    {t_CELL_WORDS : Addr} {o_CELL_WORDS : Obj} {is_CELL_WORDS : Array Value} {nn_CELL_WORDS : Nat}
    (z_CELL_WORDS : PySem.W.nsIn K mainGlobals "CELL_WORDS" = some (some (.ref t_CELL_WORDS)))
    (l_CELL_WORDS : K.lookup t_CELL_WORDS = some o_CELL_WORDS)
    (lc_CELL_WORDS : o_CELL_WORDS.cls = .type "tuple")
    (ld_CELL_WORDS : o_CELL_WORDS.data = .seq is_CELL_WORDS nn_CELL_WORDS)
    (lz_CELL_WORDS : is_CELL_WORDS.size ≤ sizeLine)
    (lv_CELL_WORDS : Vals [V.str "now", V.str "late"] is_CELL_WORDS.toList)
    {u_GREATEST_DEPTH : Value}
    (z_GREATEST_DEPTH : PySem.W.nsIn K mainGlobals "GREATEST_DEPTH" = some (some u_GREATEST_DEPTH))
    (r_GREATEST_DEPTH : L2.RelV Ov.g_GREATEST_DEPTH u_GREATEST_DEPTH)
    {u_GREATEST_NUMBER : Value}
    (z_GREATEST_NUMBER : PySem.W.nsIn K mainGlobals "GREATEST_NUMBER" = some (some u_GREATEST_NUMBER))
    (r_GREATEST_NUMBER : L2.RelV Ov.g_GREATEST_NUMBER u_GREATEST_NUMBER)
    {t_GUARDS : Addr} {o_GUARDS : Obj} {is_GUARDS : Array Value} {nn_GUARDS : Nat}
    (z_GUARDS : PySem.W.nsIn K mainGlobals "GUARDS" = some (some (.ref t_GUARDS)))
    (l_GUARDS : K.lookup t_GUARDS = some o_GUARDS)
    (lc_GUARDS : o_GUARDS.cls = .type "tuple")
    (ld_GUARDS : o_GUARDS.data = .seq is_GUARDS nn_GUARDS)
    (lz_GUARDS : is_GUARDS.size ≤ sizeLine)
    (lv_GUARDS : Vals [V.str "done", V.str "error", V.str "always"] is_GUARDS.toList)
    {t_KINDS_WITH_NAME : Addr} {o_KINDS_WITH_NAME : Obj} {is_KINDS_WITH_NAME : Array Value} {nn_KINDS_WITH_NAME : Nat}
    (z_KINDS_WITH_NAME : PySem.W.nsIn K mainGlobals "KINDS_WITH_NAME" = some (some (.ref t_KINDS_WITH_NAME)))
    (l_KINDS_WITH_NAME : K.lookup t_KINDS_WITH_NAME = some o_KINDS_WITH_NAME)
    (lc_KINDS_WITH_NAME : o_KINDS_WITH_NAME.cls = .type "tuple")
    (ld_KINDS_WITH_NAME : o_KINDS_WITH_NAME.data = .seq is_KINDS_WITH_NAME nn_KINDS_WITH_NAME)
    (lz_KINDS_WITH_NAME : is_KINDS_WITH_NAME.size ≤ sizeLine)
    (lv_KINDS_WITH_NAME : Vals [V.str "jump", V.str "swap"] is_KINDS_WITH_NAME.toList)
    {t_KINDS_WITH_NUMBER : Addr} {o_KINDS_WITH_NUMBER : Obj} {is_KINDS_WITH_NUMBER : Array Value} {nn_KINDS_WITH_NUMBER : Nat}
    (z_KINDS_WITH_NUMBER : PySem.W.nsIn K mainGlobals "KINDS_WITH_NUMBER" = some (some (.ref t_KINDS_WITH_NUMBER)))
    (l_KINDS_WITH_NUMBER : K.lookup t_KINDS_WITH_NUMBER = some o_KINDS_WITH_NUMBER)
    (lc_KINDS_WITH_NUMBER : o_KINDS_WITH_NUMBER.cls = .type "tuple")
    (ld_KINDS_WITH_NUMBER : o_KINDS_WITH_NUMBER.data = .seq is_KINDS_WITH_NUMBER nn_KINDS_WITH_NUMBER)
    (lz_KINDS_WITH_NUMBER : is_KINDS_WITH_NUMBER.size ≤ sizeLine)
    (lv_KINDS_WITH_NUMBER : Vals [V.str "answer", V.str "heal"] is_KINDS_WITH_NUMBER.toList)
    {u_LETTERS : Value}
    (z_LETTERS : PySem.W.nsIn K mainGlobals "LETTERS" = some (some u_LETTERS))
    (r_LETTERS : L2.RelV Ov.g_LETTERS u_LETTERS)
    {u_LETTERS_AND_DIGITS : Value}
    (z_LETTERS_AND_DIGITS : PySem.W.nsIn K mainGlobals "LETTERS_AND_DIGITS" = some (some u_LETTERS_AND_DIGITS))
    (r_LETTERS_AND_DIGITS : L2.RelV Ov.g_LETTERS_AND_DIGITS u_LETTERS_AND_DIGITS)
    {u_LONGEST_NAME : Value}
    (z_LONGEST_NAME : PySem.W.nsIn K mainGlobals "LONGEST_NAME" = some (some u_LONGEST_NAME))
    (r_LONGEST_NAME : L2.RelV Ov.g_LONGEST_NAME u_LONGEST_NAME)
    {u_MOST_FURTHER : Value}
    (z_MOST_FURTHER : PySem.W.nsIn K mainGlobals "MOST_FURTHER" = some (some u_MOST_FURTHER))
    (r_MOST_FURTHER : L2.RelV Ov.g_MOST_FURTHER u_MOST_FURTHER)
    {c_BadAction : Addr}
    (a_BadAction : PySem.W.nsIn K mainGlobals "BadAction" = some (some (.ref c_BadAction)))
    {c_BadKind : Addr}
    (a_BadKind : PySem.W.nsIn K mainGlobals "BadKind" = some (some (.ref c_BadKind)))
    {c_BadName : Addr}
    (a_BadName : PySem.W.nsIn K mainGlobals "BadName" = some (some (.ref c_BadName)))
    {c_BadNumber : Addr}
    (a_BadNumber : PySem.W.nsIn K mainGlobals "BadNumber" = some (some (.ref c_BadNumber)))
    {c_BadStatement : Addr}
    (a_BadStatement : PySem.W.nsIn K mainGlobals "BadStatement" = some (some (.ref c_BadStatement)))
    {c_Book : Addr}
    (a_Book : PySem.W.nsIn K mainGlobals "Book" = some (some (.ref c_Book)))
    {c_Clash : Addr}
    (a_Clash : PySem.W.nsIn K mainGlobals "Clash" = some (some (.ref c_Clash)))
    {c_DeedError : Addr}
    (a_DeedError : PySem.W.nsIn K mainGlobals "DeedError" = some (some (.ref c_DeedError)))
    {c_UnknownCell : Addr}
    (a_UnknownCell : PySem.W.nsIn K mainGlobals "UnknownCell" = some (some (.ref c_UnknownCell)))
    {c_UnknownStep : Addr}
    (a_UnknownStep : PySem.W.nsIn K mainGlobals "UnknownStep" = some (some (.ref c_UnknownStep)))
    (pg_Book : PySem.W.plainGet K c_Book Str.empty = true)
    (hd_Book : PySem.W.hasDictIn K c_Book = true)
    (po_Book : PySem.W.plainOver K c_Book = true)
    (sa_Book : PySem.W.findIn K (.ref c_Book) "__setattr__" = some (some (.builtin "object.__setattr__")))
    (mk_Book : PySem.W.makesIn K c_Book = true)
    (kc_Book : PySem.W.keepIn K (.ref c_Book) = true)
    (nq_Book : PySem.W.noSeq K c_Book = true)
    (rd_Book : PySem.W.readsIn K c_Book (.type "type") = true)
    (rg_Book : PySem.W.specialIn K (.ref c_Book) "__getattribute__" = some (some (.builtin "type.__getattribute__")))
    (nf_Book__sizes : PySem.W.findIn K (.ref c_Book) "_sizes" = some none)
    (nf_Book__steps : PySem.W.findIn K (.ref c_Book) "_steps" = some none)
    {u_Book_CELLS : Value}
    (cv_Book_CELLS : PySem.W.findCls K (.ref c_Book) (.type "type") "CELLS" = some (.val u_Book_CELLS))
    (cr_Book_CELLS : L2.RelV (.int 2) u_Book_CELLS)
    {u_Book_STEPS : Value}
    (cv_Book_STEPS : PySem.W.findCls K (.ref c_Book) (.type "type") "STEPS" = some (.val u_Book_STEPS))
    (cr_Book_STEPS : L2.RelV (.int 12) u_Book_STEPS)
    (opq : PySem.W.nsIn K cStatics "thirdparty.any" = some none)
    (sup : PySem.W.nsIn K mainGlobals "super" = some none)
    (top : (P.main.scope.names.lookup ("super" : Str)).isSome = false)
    {i_BadAction : Addr} {nm_BadAction qn_BadAction : Str} {N_BadAction : Addr} {bs_BadAction bm_BadAction : List Value} {sn_BadAction : List Str} {sub_BadAction : List Value} {ab_BadAction : Bool} {col_BadAction : Option Bool} {dd_BadAction : Option Addr} {k0_BadAction k1_BadAction k2_BadAction k3_BadAction k5_BadAction : Option Value}
    (x_BadAction : K.lookup c_BadAction = some (excClassObj nm_BadAction qn_BadAction c_BadAction N_BadAction bs_BadAction bm_BadAction true sn_BadAction sub_BadAction ab_BadAction col_BadAction dd_BadAction k0_BadAction k1_BadAction k2_BadAction k3_BadAction k5_BadAction "ValueError.__new__"))
    (ve_BadAction : PySem.HandSPX.refsVE bm_BadAction = true)
    (al_BadAction : PySem.W.ks_superIn K c_BadAction c_BadAction "__init__" = some (some (.builtin "ValueError.__init__")))
    (sa_BadAction : PySem.W.findIn K (.ref c_BadAction) "__setattr__" = some (some (.builtin "object.__setattr__")))
    (no_BadAction : PySem.W.findIn K (.ref c_BadAction) "action" = some none)
    (in_BadAction : PySem.W.findIn K (.ref c_BadAction) "__init__" = some (some (.ref i_BadAction)))
    (ti_BadAction : PySem.W.typeIn K (.ref i_BadAction) = some (.type "function"))
    (kc_BadAction : PySem.W.keepIn K (.ref c_BadAction) = true)
    (ex_BadAction : PySem.W.subIn K (.ref c_BadAction) (.type "BaseException") = some true)
    (vc_BadAction : PySem.W.subIn K (.ref c_BadAction) (.type "ValueError") = some true)
    (sl_BadAction : PySem.W.mroIn K c_BadAction (.ref c_BadAction) = some true)
    (ty_BadAction : PySem.W.typeIn K (.ref c_BadAction) = some (.type "type"))
    {ocx_BadAction docx_BadAction pmx_BadAction ctx_BadAction cclx_BadAction clx_BadAction : Value} {odx_BadAction anx_BadAction cddx_BadAction cldx_BadAction : Option Addr} {cdax_BadAction ccx_BadAction : Addr} {oslx_BadAction ccsx_BadAction cslx_BadAction : Array (Option Value)} {vsx_BadAction : Array Value} {filex_BadAction : Str} {tfx_BadAction : Tok}
    (li_BadAction : K.lookup i_BadAction = some ⟨ocx_BadAction, odx_BadAction, .func (PySem.W.ksFn "__init__" "BadAction.__init__" (defArgs (inClass (topS 6) 0)) (defBody (inClass (topS 6) 0)) (defScope (inClass (topS 6) 0)) .none .none docx_BadAction pmx_BadAction anx_BadAction (.ref cdax_BadAction) ctx_BadAction ccx_BadAction), oslx_BadAction⟩)
    (ci_BadAction : PySem.W.codeIn K (.ref cdax_BadAction) "BadAction.__init__" = true)
    (cd_BadAction : K.lookup cdax_BadAction = some ⟨cclx_BadAction, cddx_BadAction, .fields vsx_BadAction, ccsx_BadAction⟩)
    (fv_BadAction : vsx_BadAction[2]? = some (.str filex_BadAction tfx_BadAction))
    (fl_BadAction : ((P.main.file : Str) == filex_BadAction) = true)
    (ce_BadAction : K.lookup ccx_BadAction = some ⟨clx_BadAction, cldx_BadAction, .cell (some (.ref c_BadAction)), cslx_BadAction⟩)
    {i_BadNumber : Addr} {nm_BadNumber qn_BadNumber : Str} {N_BadNumber : Addr} {bs_BadNumber bm_BadNumber : List Value} {sn_BadNumber : List Str} {sub_BadNumber : List Value} {ab_BadNumber : Bool} {col_BadNumber : Option Bool} {dd_BadNumber : Option Addr} {k0_BadNumber k1_BadNumber k2_BadNumber k3_BadNumber k5_BadNumber : Option Value}
    (x_BadNumber : K.lookup c_BadNumber = some (excClassObj nm_BadNumber qn_BadNumber c_BadNumber N_BadNumber bs_BadNumber bm_BadNumber true sn_BadNumber sub_BadNumber ab_BadNumber col_BadNumber dd_BadNumber k0_BadNumber k1_BadNumber k2_BadNumber k3_BadNumber k5_BadNumber "ValueError.__new__"))
    (ve_BadNumber : PySem.HandSPX.refsVE bm_BadNumber = true)
    (al_BadNumber : PySem.W.ks_superIn K c_BadNumber c_BadNumber "__init__" = some (some (.builtin "ValueError.__init__")))
    (sa_BadNumber : PySem.W.findIn K (.ref c_BadNumber) "__setattr__" = some (some (.builtin "object.__setattr__")))
    (no_BadNumber : PySem.W.findIn K (.ref c_BadNumber) "number" = some none)
    (in_BadNumber : PySem.W.findIn K (.ref c_BadNumber) "__init__" = some (some (.ref i_BadNumber)))
    (ti_BadNumber : PySem.W.typeIn K (.ref i_BadNumber) = some (.type "function"))
    (kc_BadNumber : PySem.W.keepIn K (.ref c_BadNumber) = true)
    (ex_BadNumber : PySem.W.subIn K (.ref c_BadNumber) (.type "BaseException") = some true)
    (vc_BadNumber : PySem.W.subIn K (.ref c_BadNumber) (.type "ValueError") = some true)
    (sl_BadNumber : PySem.W.mroIn K c_BadNumber (.ref c_BadNumber) = some true)
    (ty_BadNumber : PySem.W.typeIn K (.ref c_BadNumber) = some (.type "type"))
    {ocx_BadNumber docx_BadNumber pmx_BadNumber ctx_BadNumber cclx_BadNumber clx_BadNumber : Value} {odx_BadNumber anx_BadNumber cddx_BadNumber cldx_BadNumber : Option Addr} {cdax_BadNumber ccx_BadNumber : Addr} {oslx_BadNumber ccsx_BadNumber cslx_BadNumber : Array (Option Value)} {vsx_BadNumber : Array Value} {filex_BadNumber : Str} {tfx_BadNumber : Tok}
    (li_BadNumber : K.lookup i_BadNumber = some ⟨ocx_BadNumber, odx_BadNumber, .func (PySem.W.ksFn "__init__" "BadNumber.__init__" (defArgs (inClass (topS 4) 0)) (defBody (inClass (topS 4) 0)) (defScope (inClass (topS 4) 0)) .none .none docx_BadNumber pmx_BadNumber anx_BadNumber (.ref cdax_BadNumber) ctx_BadNumber ccx_BadNumber), oslx_BadNumber⟩)
    (ci_BadNumber : PySem.W.codeIn K (.ref cdax_BadNumber) "BadNumber.__init__" = true)
    (cd_BadNumber : K.lookup cdax_BadNumber = some ⟨cclx_BadNumber, cddx_BadNumber, .fields vsx_BadNumber, ccsx_BadNumber⟩)
    (fv_BadNumber : vsx_BadNumber[2]? = some (.str filex_BadNumber tfx_BadNumber))
    (fl_BadNumber : ((P.main.file : Str) == filex_BadNumber) = true)
    (ce_BadNumber : K.lookup ccx_BadNumber = some ⟨clx_BadNumber, cldx_BadNumber, .cell (some (.ref c_BadNumber)), cslx_BadNumber⟩)
    {i_Clash : Addr} {nm_Clash qn_Clash : Str} {N_Clash : Addr} {bs_Clash bm_Clash : List Value} {sn_Clash : List Str} {sub_Clash : List Value} {ab_Clash : Bool} {col_Clash : Option Bool} {dd_Clash : Option Addr} {k0_Clash k1_Clash k2_Clash k3_Clash k5_Clash : Option Value}
    (x_Clash : K.lookup c_Clash = some (excClassObj nm_Clash qn_Clash c_Clash N_Clash bs_Clash bm_Clash true sn_Clash sub_Clash ab_Clash col_Clash dd_Clash k0_Clash k1_Clash k2_Clash k3_Clash k5_Clash "ValueError.__new__"))
    (ve_Clash : PySem.HandSPX.refsVE bm_Clash = true)
    (al_Clash : PySem.W.ks_superIn K c_Clash c_Clash "__init__" = some (some (.builtin "ValueError.__init__")))
    (sa_Clash : PySem.W.findIn K (.ref c_Clash) "__setattr__" = some (some (.builtin "object.__setattr__")))
    (no_Clash : PySem.W.findIn K (.ref c_Clash) "name" = some none)
    (in_Clash : PySem.W.findIn K (.ref c_Clash) "__init__" = some (some (.ref i_Clash)))
    (ti_Clash : PySem.W.typeIn K (.ref i_Clash) = some (.type "function"))
    (kc_Clash : PySem.W.keepIn K (.ref c_Clash) = true)
    (ex_Clash : PySem.W.subIn K (.ref c_Clash) (.type "BaseException") = some true)
    (vc_Clash : PySem.W.subIn K (.ref c_Clash) (.type "ValueError") = some true)
    (sl_Clash : PySem.W.mroIn K c_Clash (.ref c_Clash) = some true)
    (ty_Clash : PySem.W.typeIn K (.ref c_Clash) = some (.type "type"))
    {ocx_Clash docx_Clash pmx_Clash ctx_Clash cclx_Clash clx_Clash : Value} {odx_Clash anx_Clash cddx_Clash cldx_Clash : Option Addr} {cdax_Clash ccx_Clash : Addr} {oslx_Clash ccsx_Clash cslx_Clash : Array (Option Value)} {vsx_Clash : Array Value} {filex_Clash : Str} {tfx_Clash : Tok}
    (li_Clash : K.lookup i_Clash = some ⟨ocx_Clash, odx_Clash, .func (PySem.W.ksFn "__init__" "Clash.__init__" (defArgs (inClass (topS 11) 0)) (defBody (inClass (topS 11) 0)) (defScope (inClass (topS 11) 0)) .none .none docx_Clash pmx_Clash anx_Clash (.ref cdax_Clash) ctx_Clash ccx_Clash), oslx_Clash⟩)
    (ci_Clash : PySem.W.codeIn K (.ref cdax_Clash) "Clash.__init__" = true)
    (cd_Clash : K.lookup cdax_Clash = some ⟨cclx_Clash, cddx_Clash, .fields vsx_Clash, ccsx_Clash⟩)
    (fv_Clash : vsx_Clash[2]? = some (.str filex_Clash tfx_Clash))
    (fl_Clash : ((P.main.file : Str) == filex_Clash) = true)
    (ce_Clash : K.lookup ccx_Clash = some ⟨clx_Clash, cldx_Clash, .cell (some (.ref c_Clash)), cslx_Clash⟩)
    {i_UnknownCell : Addr} {nm_UnknownCell qn_UnknownCell : Str} {N_UnknownCell : Addr} {bs_UnknownCell bm_UnknownCell : List Value} {sn_UnknownCell : List Str} {sub_UnknownCell : List Value} {ab_UnknownCell : Bool} {col_UnknownCell : Option Bool} {dd_UnknownCell : Option Addr} {k0_UnknownCell k1_UnknownCell k2_UnknownCell k3_UnknownCell k5_UnknownCell : Option Value}
    (x_UnknownCell : K.lookup c_UnknownCell = some (excClassObj nm_UnknownCell qn_UnknownCell c_UnknownCell N_UnknownCell bs_UnknownCell bm_UnknownCell true sn_UnknownCell sub_UnknownCell ab_UnknownCell col_UnknownCell dd_UnknownCell k0_UnknownCell k1_UnknownCell k2_UnknownCell k3_UnknownCell k5_UnknownCell "ValueError.__new__"))
    (ve_UnknownCell : PySem.HandSPX.refsVE bm_UnknownCell = true)
    (al_UnknownCell : PySem.W.ks_superIn K c_UnknownCell c_UnknownCell "__init__" = some (some (.builtin "ValueError.__init__")))
    (sa_UnknownCell : PySem.W.findIn K (.ref c_UnknownCell) "__setattr__" = some (some (.builtin "object.__setattr__")))
    (no_UnknownCell : PySem.W.findIn K (.ref c_UnknownCell) "cell" = some none)
    (in_UnknownCell : PySem.W.findIn K (.ref c_UnknownCell) "__init__" = some (some (.ref i_UnknownCell)))
    (ti_UnknownCell : PySem.W.typeIn K (.ref i_UnknownCell) = some (.type "function"))
    (kc_UnknownCell : PySem.W.keepIn K (.ref c_UnknownCell) = true)
    (ex_UnknownCell : PySem.W.subIn K (.ref c_UnknownCell) (.type "BaseException") = some true)
    (vc_UnknownCell : PySem.W.subIn K (.ref c_UnknownCell) (.type "ValueError") = some true)
    (sl_UnknownCell : PySem.W.mroIn K c_UnknownCell (.ref c_UnknownCell) = some true)
    (ty_UnknownCell : PySem.W.typeIn K (.ref c_UnknownCell) = some (.type "type"))
    {ocx_UnknownCell docx_UnknownCell pmx_UnknownCell ctx_UnknownCell cclx_UnknownCell clx_UnknownCell : Value} {odx_UnknownCell anx_UnknownCell cddx_UnknownCell cldx_UnknownCell : Option Addr} {cdax_UnknownCell ccx_UnknownCell : Addr} {oslx_UnknownCell ccsx_UnknownCell cslx_UnknownCell : Array (Option Value)} {vsx_UnknownCell : Array Value} {filex_UnknownCell : Str} {tfx_UnknownCell : Tok}
    (li_UnknownCell : K.lookup i_UnknownCell = some ⟨ocx_UnknownCell, odx_UnknownCell, .func (PySem.W.ksFn "__init__" "UnknownCell.__init__" (defArgs (inClass (topS 9) 0)) (defBody (inClass (topS 9) 0)) (defScope (inClass (topS 9) 0)) .none .none docx_UnknownCell pmx_UnknownCell anx_UnknownCell (.ref cdax_UnknownCell) ctx_UnknownCell ccx_UnknownCell), oslx_UnknownCell⟩)
    (ci_UnknownCell : PySem.W.codeIn K (.ref cdax_UnknownCell) "UnknownCell.__init__" = true)
    (cd_UnknownCell : K.lookup cdax_UnknownCell = some ⟨cclx_UnknownCell, cddx_UnknownCell, .fields vsx_UnknownCell, ccsx_UnknownCell⟩)
    (fv_UnknownCell : vsx_UnknownCell[2]? = some (.str filex_UnknownCell tfx_UnknownCell))
    (fl_UnknownCell : ((P.main.file : Str) == filex_UnknownCell) = true)
    (ce_UnknownCell : K.lookup ccx_UnknownCell = some ⟨clx_UnknownCell, cldx_UnknownCell, .cell (some (.ref c_UnknownCell)), cslx_UnknownCell⟩)
    {i_UnknownStep : Addr} {nm_UnknownStep qn_UnknownStep : Str} {N_UnknownStep : Addr} {bs_UnknownStep bm_UnknownStep : List Value} {sn_UnknownStep : List Str} {sub_UnknownStep : List Value} {ab_UnknownStep : Bool} {col_UnknownStep : Option Bool} {dd_UnknownStep : Option Addr} {k0_UnknownStep k1_UnknownStep k2_UnknownStep k3_UnknownStep k5_UnknownStep : Option Value}
    (x_UnknownStep : K.lookup c_UnknownStep = some (excClassObj nm_UnknownStep qn_UnknownStep c_UnknownStep N_UnknownStep bs_UnknownStep bm_UnknownStep true sn_UnknownStep sub_UnknownStep ab_UnknownStep col_UnknownStep dd_UnknownStep k0_UnknownStep k1_UnknownStep k2_UnknownStep k3_UnknownStep k5_UnknownStep "ValueError.__new__"))
    (ve_UnknownStep : PySem.HandSPX.refsVE bm_UnknownStep = true)
    (al_UnknownStep : PySem.W.ks_superIn K c_UnknownStep c_UnknownStep "__init__" = some (some (.builtin "ValueError.__init__")))
    (sa_UnknownStep : PySem.W.findIn K (.ref c_UnknownStep) "__setattr__" = some (some (.builtin "object.__setattr__")))
    (no_UnknownStep : PySem.W.findIn K (.ref c_UnknownStep) "step" = some none)
    (in_UnknownStep : PySem.W.findIn K (.ref c_UnknownStep) "__init__" = some (some (.ref i_UnknownStep)))
    (ti_UnknownStep : PySem.W.typeIn K (.ref i_UnknownStep) = some (.type "function"))
    (kc_UnknownStep : PySem.W.keepIn K (.ref c_UnknownStep) = true)
    (ex_UnknownStep : PySem.W.subIn K (.ref c_UnknownStep) (.type "BaseException") = some true)
    (vc_UnknownStep : PySem.W.subIn K (.ref c_UnknownStep) (.type "ValueError") = some true)
    (sl_UnknownStep : PySem.W.mroIn K c_UnknownStep (.ref c_UnknownStep) = some true)
    (ty_UnknownStep : PySem.W.typeIn K (.ref c_UnknownStep) = some (.type "type"))
    {ocx_UnknownStep docx_UnknownStep pmx_UnknownStep ctx_UnknownStep cclx_UnknownStep clx_UnknownStep : Value} {odx_UnknownStep anx_UnknownStep cddx_UnknownStep cldx_UnknownStep : Option Addr} {cdax_UnknownStep ccx_UnknownStep : Addr} {oslx_UnknownStep ccsx_UnknownStep cslx_UnknownStep : Array (Option Value)} {vsx_UnknownStep : Array Value} {filex_UnknownStep : Str} {tfx_UnknownStep : Tok}
    (li_UnknownStep : K.lookup i_UnknownStep = some ⟨ocx_UnknownStep, odx_UnknownStep, .func (PySem.W.ksFn "__init__" "UnknownStep.__init__" (defArgs (inClass (topS 8) 0)) (defBody (inClass (topS 8) 0)) (defScope (inClass (topS 8) 0)) .none .none docx_UnknownStep pmx_UnknownStep anx_UnknownStep (.ref cdax_UnknownStep) ctx_UnknownStep ccx_UnknownStep), oslx_UnknownStep⟩)
    (ci_UnknownStep : PySem.W.codeIn K (.ref cdax_UnknownStep) "UnknownStep.__init__" = true)
    (cd_UnknownStep : K.lookup cdax_UnknownStep = some ⟨cclx_UnknownStep, cddx_UnknownStep, .fields vsx_UnknownStep, ccsx_UnknownStep⟩)
    (fv_UnknownStep : vsx_UnknownStep[2]? = some (.str filex_UnknownStep tfx_UnknownStep))
    (fl_UnknownStep : ((P.main.file : Str) == filex_UnknownStep) = true)
    (ce_UnknownStep : K.lookup ccx_UnknownStep = some ⟨clx_UnknownStep, cldx_UnknownStep, .cell (some (.ref c_UnknownStep)), cslx_UnknownStep⟩)
    (sp : PySem.W.specialIn K (.builtin "object.__class__") "__get__" = some (some (.builtin "getset_descriptor.__get__")))
    (tk : PySem.W.takesIn K (.builtin "object.__class__") = some true)
    (ga_BadAction : PySem.W.findIn K (.ref c_BadAction) "__getattribute__" = some (some (.builtin "BaseException.__getattribute__")))
    (gg_BadAction : PySem.W.findIn K (.ref c_BadAction) "__getattr__" = some none)
    (hd_BadAction : PySem.W.hasDictIn K c_BadAction = true)
    (cl_BadAction : PySem.W.findIn K (.ref c_BadAction) "__class__" = some (some (.builtin "object.__class__")))
    (ob_BadAction : PySem.W.mroIn K c_BadAction (.type "object") = some true)
    (ga_BadNumber : PySem.W.findIn K (.ref c_BadNumber) "__getattribute__" = some (some (.builtin "BaseException.__getattribute__")))
    (gg_BadNumber : PySem.W.findIn K (.ref c_BadNumber) "__getattr__" = some none)
    (hd_BadNumber : PySem.W.hasDictIn K c_BadNumber = true)
    (cl_BadNumber : PySem.W.findIn K (.ref c_BadNumber) "__class__" = some (some (.builtin "object.__class__")))
    (ob_BadNumber : PySem.W.mroIn K c_BadNumber (.type "object") = some true)
    (ga_UnknownCell : PySem.W.findIn K (.ref c_UnknownCell) "__getattribute__" = some (some (.builtin "BaseException.__getattribute__")))
    (gg_UnknownCell : PySem.W.findIn K (.ref c_UnknownCell) "__getattr__" = some none)
    (hd_UnknownCell : PySem.W.hasDictIn K c_UnknownCell = true)
    (cl_UnknownCell : PySem.W.findIn K (.ref c_UnknownCell) "__class__" = some (some (.builtin "object.__class__")))
    (ob_UnknownCell : PySem.W.mroIn K c_UnknownCell (.type "object") = some true)
    (ga_UnknownStep : PySem.W.findIn K (.ref c_UnknownStep) "__getattribute__" = some (some (.builtin "BaseException.__getattribute__")))
    (gg_UnknownStep : PySem.W.findIn K (.ref c_UnknownStep) "__getattr__" = some none)
    (hd_UnknownStep : PySem.W.hasDictIn K c_UnknownStep = true)
    (cl_UnknownStep : PySem.W.findIn K (.ref c_UnknownStep) "__class__" = some (some (.builtin "object.__class__")))
    (ob_UnknownStep : PySem.W.mroIn K c_UnknownStep (.type "object") = some true)
    (se_BadAction_DeedError : PySem.W.subIn K (.ref c_BadAction) (.ref c_DeedError) = some true)
    (se_BadNumber_DeedError : PySem.W.subIn K (.ref c_BadNumber) (.ref c_DeedError) = some true)
    (se_UnknownCell_DeedError : PySem.W.subIn K (.ref c_UnknownCell) (.ref c_DeedError) = some true)
    (se_UnknownStep_DeedError : PySem.W.subIn K (.ref c_UnknownStep) (.ref c_DeedError) = some true)
    (hd_DeedError : PySem.W.hasDictIn K c_DeedError = true)
    (ex_DeedError : PySem.W.subIn K (.ref c_DeedError) (.type "BaseException") = some true)
    (ty_DeedError : PySem.W.typeIn K (.ref c_DeedError) = some (.type "type"))
    (oc_Book : PySem.W.findIn K (.ref c_Book) "__class__" = some (some (.builtin "object.__class__")))
    (om_Book : PySem.W.mroIn K c_Book (.type "object") = some true)
    (io_Book : PySem.W.kitOne K (.ref c_Book) (.ref c_Book) = some true)
    (k_BadAction__BadAction : PySem.W.kitOne K (.ref c_BadAction) (.ref c_BadAction) = some true)
    (k_BadAction__BadKind : PySem.W.kitOne K (.ref c_BadAction) (.ref c_BadKind) = some false)
    (k_BadAction__BadName : PySem.W.kitOne K (.ref c_BadAction) (.ref c_BadName) = some false)
    (k_BadAction__BadNumber : PySem.W.kitOne K (.ref c_BadAction) (.ref c_BadNumber) = some false)
    (k_BadAction__BadStatement : PySem.W.kitOne K (.ref c_BadAction) (.ref c_BadStatement) = some false)
    (k_BadAction__DeedError : PySem.W.kitOne K (.ref c_BadAction) (.ref c_DeedError) = some true)
    (k_BadAction__UnknownCell : PySem.W.kitOne K (.ref c_BadAction) (.ref c_UnknownCell) = some false)
    (k_BadAction__UnknownStep : PySem.W.kitOne K (.ref c_BadAction) (.ref c_UnknownStep) = some false)
    (k_BadAction__ValueError : PySem.W.kitOne K (.ref c_BadAction) (.type "ValueError") = some true)
    (k_BadNumber__BadAction : PySem.W.kitOne K (.ref c_BadNumber) (.ref c_BadAction) = some false)
    (k_BadNumber__BadKind : PySem.W.kitOne K (.ref c_BadNumber) (.ref c_BadKind) = some false)
    (k_BadNumber__BadName : PySem.W.kitOne K (.ref c_BadNumber) (.ref c_BadName) = some false)
    (k_BadNumber__BadNumber : PySem.W.kitOne K (.ref c_BadNumber) (.ref c_BadNumber) = some true)
    (k_BadNumber__BadStatement : PySem.W.kitOne K (.ref c_BadNumber) (.ref c_BadStatement) = some false)
    (k_BadNumber__DeedError : PySem.W.kitOne K (.ref c_BadNumber) (.ref c_DeedError) = some true)
    (k_BadNumber__UnknownCell : PySem.W.kitOne K (.ref c_BadNumber) (.ref c_UnknownCell) = some false)
    (k_BadNumber__UnknownStep : PySem.W.kitOne K (.ref c_BadNumber) (.ref c_UnknownStep) = some false)
    (k_BadNumber__ValueError : PySem.W.kitOne K (.ref c_BadNumber) (.type "ValueError") = some true)
    (k_UnknownCell__BadAction : PySem.W.kitOne K (.ref c_UnknownCell) (.ref c_BadAction) = some false)
    (k_UnknownCell__BadKind : PySem.W.kitOne K (.ref c_UnknownCell) (.ref c_BadKind) = some false)
    (k_UnknownCell__BadName : PySem.W.kitOne K (.ref c_UnknownCell) (.ref c_BadName) = some false)
    (k_UnknownCell__BadNumber : PySem.W.kitOne K (.ref c_UnknownCell) (.ref c_BadNumber) = some false)
    (k_UnknownCell__BadStatement : PySem.W.kitOne K (.ref c_UnknownCell) (.ref c_BadStatement) = some false)
    (k_UnknownCell__DeedError : PySem.W.kitOne K (.ref c_UnknownCell) (.ref c_DeedError) = some true)
    (k_UnknownCell__UnknownCell : PySem.W.kitOne K (.ref c_UnknownCell) (.ref c_UnknownCell) = some true)
    (k_UnknownCell__UnknownStep : PySem.W.kitOne K (.ref c_UnknownCell) (.ref c_UnknownStep) = some false)
    (k_UnknownCell__ValueError : PySem.W.kitOne K (.ref c_UnknownCell) (.type "ValueError") = some true)
    (k_UnknownStep__BadAction : PySem.W.kitOne K (.ref c_UnknownStep) (.ref c_BadAction) = some false)
    (k_UnknownStep__BadKind : PySem.W.kitOne K (.ref c_UnknownStep) (.ref c_BadKind) = some false)
    (k_UnknownStep__BadName : PySem.W.kitOne K (.ref c_UnknownStep) (.ref c_BadName) = some false)
    (k_UnknownStep__BadNumber : PySem.W.kitOne K (.ref c_UnknownStep) (.ref c_BadNumber) = some false)
    (k_UnknownStep__BadStatement : PySem.W.kitOne K (.ref c_UnknownStep) (.ref c_BadStatement) = some false)
    (k_UnknownStep__DeedError : PySem.W.kitOne K (.ref c_UnknownStep) (.ref c_DeedError) = some true)
    (k_UnknownStep__UnknownCell : PySem.W.kitOne K (.ref c_UnknownStep) (.ref c_UnknownCell) = some false)
    (k_UnknownStep__UnknownStep : PySem.W.kitOne K (.ref c_UnknownStep) (.ref c_UnknownStep) = some true)
    (k_UnknownStep__ValueError : PySem.W.kitOne K (.ref c_UnknownStep) (.type "ValueError") = some true)
    {f0 : Addr} {oc0 : Value} {od0 an0 : Option Addr} {sl0 : Array (Option Value)} {kV0 dc0 pm0 cd0 ct0 : Value}
    (a0 : PySem.W.nsIn K mainGlobals "is_name" = some (some (.ref f0)))
    (l0 : K.lookup f0 = some ⟨oc0, od0, .func (PySem.W.fnOf "is_name" "is_name" (defArgs s_is_name) (defBody s_is_name) (defScope s_is_name) .none kV0 dc0 pm0 an0 cd0 ct0), sl0⟩)
    (c0 : PySem.W.codeIn K cd0 "is_name" = true)
    (k0 : PySem.W.keepIn K (.ref f0) = true)
    {f1 : Addr} {oc1 : Value} {od1 an1 : Option Addr} {sl1 : Array (Option Value)} {kV1 dc1 pm1 cd1 ct1 : Value}
    (a1 : PySem.W.nsIn K mainGlobals "check_number" = some (some (.ref f1)))
    (l1 : K.lookup f1 = some ⟨oc1, od1, .func (PySem.W.fnOf "check_number" "check_number" (defArgs s_check_number) (defBody s_check_number) (defScope s_check_number) .none kV1 dc1 pm1 an1 cd1 ct1), sl1⟩)
    (c1 : PySem.W.codeIn K cd1 "check_number" = true)
    (k1 : PySem.W.keepIn K (.ref f1) = true)
    {f2 : Addr} {oc2 : Value} {od2 an2 : Option Addr} {sl2 : Array (Option Value)} {kV2 dc2 pm2 cd2 ct2 : Value}
    (a2 : PySem.W.nsIn K mainGlobals "at_most" = some (some (.ref f2)))
    (l2 : K.lookup f2 = some ⟨oc2, od2, .func (PySem.W.fnOf "at_most" "at_most" (defArgs s_at_most) (defBody s_at_most) (defScope s_at_most) .none kV2 dc2 pm2 an2 cd2 ct2), sl2⟩)
    (c2 : PySem.W.codeIn K cd2 "at_most" = true)
    (k2 : PySem.W.keepIn K (.ref f2) = true)
    {f3 : Addr} {oc3 : Value} {od3 an3 : Option Addr} {sl3 : Array (Option Value)} {kV3 dc3 pm3 cd3 ct3 : Value}
    {p3 : Addr} {rr3 : List Value}
    (a3 : PySem.W.findIn K (.ref c_Book) "cells" = some (some (.ref p3)))
    (pg3 : PySem.W.specialIn K (.ref p3) "__get__" = some (some (.builtin "property.__get__")))
    (pt3 : PySem.W.takesIn K (.ref p3) = some true)
    (pr3 : PySem.W.recIn K p3 "property" = some (.ref f3 :: rr3))
    (l3 : K.lookup f3 = some ⟨oc3, od3, .func (PySem.W.fnOf "cells" "Book.cells" (defArgs s_Book_cells) (defBody s_Book_cells) (defScope s_Book_cells) .none kV3 dc3 pm3 an3 cd3 ct3), sl3⟩)
    (c3 : PySem.W.codeIn K cd3 "Book.cells" = true)
    (k3 : PySem.W.keepIn K (.ref f3) = true)
    {f4 : Addr} {oc4 : Value} {od4 an4 : Option Addr} {sl4 : Array (Option Value)} {kV4 dc4 pm4 cd4 ct4 : Value}
    (a4 : PySem.W.findIn K (.ref c_Book) "__contains__" = some (some (.ref f4)))
    (t4 : PySem.W.isFn K (.ref f4) = true)
    (l4 : K.lookup f4 = some ⟨oc4, od4, .func (PySem.W.fnOf "__contains__" "Book.__contains__" (defArgs s_Book___contains__) (defBody s_Book___contains__) (defScope s_Book___contains__) .none kV4 dc4 pm4 an4 cd4 ct4), sl4⟩)
    (c4 : PySem.W.codeIn K cd4 "Book.__contains__" = true)
    (k4 : PySem.W.keepIn K (.ref f4) = true)
    {f5 : Addr} {oc5 : Value} {od5 an5 : Option Addr} {sl5 : Array (Option Value)} {kV5 dc5 pm5 cd5 ct5 : Value}
    (a5 : PySem.W.findIn K (.ref c_Book) "__init__" = some (some (.ref f5)))
    (t5 : PySem.W.isFn K (.ref f5) = true)
    (l5 : K.lookup f5 = some ⟨oc5, od5, .func (PySem.W.fnOf "__init__" "Book.__init__" (defArgs s_Book___init__) (defBody s_Book___init__) (defScope s_Book___init__) .none kV5 dc5 pm5 an5 cd5 ct5), sl5⟩)
    (c5 : PySem.W.codeIn K cd5 "Book.__init__" = true)
    (k5 : PySem.W.keepIn K (.ref f5) = true)
    {f6 : Addr} {oc6 : Value} {od6 an6 : Option Addr} {sl6 : Array (Option Value)} {kV6 dc6 pm6 cd6 ct6 : Value}
    (a6 : PySem.W.nsIn K mainGlobals "_law_pool" = some (some (.ref f6)))
    (l6 : K.lookup f6 = some ⟨oc6, od6, .func (PySem.W.fnOf "_law_pool" "_law_pool" (defArgs s__law_pool) (defBody s__law_pool) (defScope s__law_pool) .none kV6 dc6 pm6 an6 cd6 ct6), sl6⟩)
    (c6 : PySem.W.codeIn K cd6 "_law_pool" = true)
    (k6 : PySem.W.keepIn K (.ref f6) = true)
    {f7 : Addr} {oc7 : Value} {od7 an7 : Option Addr} {sl7 : Array (Option Value)} {kV7 dc7 pm7 cd7 ct7 : Value}
    (a7 : PySem.W.nsIn K mainGlobals "_law_mixed" = some (some (.ref f7)))
    (l7 : K.lookup f7 = some ⟨oc7, od7, .func (PySem.W.fnOf "_law_mixed" "_law_mixed" (defArgs s__law_mixed) (defBody s__law_mixed) (defScope s__law_mixed) .none kV7 dc7 pm7 an7 cd7 ct7), sl7⟩)
    (c7 : PySem.W.codeIn K cd7 "_law_mixed" = true)
    (k7 : PySem.W.keepIn K (.ref f7) = true)
    {f8 : Addr} {oc8 : Value} {od8 an8 : Option Addr} {sl8 : Array (Option Value)} {kV8 dc8 pm8 cd8 ct8 : Value}
    (a8 : PySem.W.nsIn K mainGlobals "_law_letters" = some (some (.ref f8)))
    (l8 : K.lookup f8 = some ⟨oc8, od8, .func (PySem.W.fnOf "_law_letters" "_law_letters" (defArgs s__law_letters) (defBody s__law_letters) (defScope s__law_letters) .none kV8 dc8 pm8 an8 cd8 ct8), sl8⟩)
    (c8 : PySem.W.codeIn K cd8 "_law_letters" = true)
    (k8 : PySem.W.keepIn K (.ref f8) = true)
    {f9 : Addr} {oc9 : Value} {od9 an9 : Option Addr} {sl9 : Array (Option Value)} {kV9 dc9 pm9 cd9 ct9 : Value}
    (a9 : PySem.W.nsIn K mainGlobals "_law_single" = some (some (.ref f9)))
    (l9 : K.lookup f9 = some ⟨oc9, od9, .func (PySem.W.fnOf "_law_single" "_law_single" (defArgs s__law_single) (defBody s__law_single) (defScope s__law_single) .none kV9 dc9 pm9 an9 cd9 ct9), sl9⟩)
    (c9 : PySem.W.codeIn K cd9 "_law_single" = true)
    (k9 : PySem.W.keepIn K (.ref f9) = true)
    {f10 : Addr} {oc10 : Value} {od10 an10 : Option Addr} {sl10 : Array (Option Value)} {kV10 dc10 pm10 cd10 ct10 : Value}
    (a10 : PySem.W.nsIn K mainGlobals "check_name" = some (some (.ref f10)))
    (l10 : K.lookup f10 = some ⟨oc10, od10, .func (PySem.W.fnOf "check_name" "check_name" (defArgs s_check_name) (defBody s_check_name) (defScope s_check_name) .none kV10 dc10 pm10 an10 cd10 ct10), sl10⟩)
    (c10 : PySem.W.codeIn K cd10 "check_name" = true)
    (k10 : PySem.W.keepIn K (.ref f10) = true)
    {f11 : Addr} {oc11 : Value} {od11 an11 : Option Addr} {sl11 : Array (Option Value)} {kV11 dc11 pm11 cd11 ct11 : Value}
    (a11 : PySem.W.nsIn K mainGlobals "_law_draw" = some (some (.ref f11)))
    (l11 : K.lookup f11 = some ⟨oc11, od11, .func (PySem.W.fnOf "_law_draw" "_law_draw" (defArgs s__law_draw) (defBody s__law_draw) (defScope s__law_draw) .none kV11 dc11 pm11 an11 cd11 ct11), sl11⟩)
    (c11 : PySem.W.codeIn K cd11 "_law_draw" = true)
    (k11 : PySem.W.keepIn K (.ref f11) = true)
    {f12 : Addr} {oc12 : Value} {od12 an12 : Option Addr} {sl12 : Array (Option Value)} {kV12 dc12 pm12 cd12 ct12 : Value}
    (a12 : PySem.W.nsIn K mainGlobals "_law_reason" = some (some (.ref f12)))
    (l12 : K.lookup f12 = some ⟨oc12, od12, .func (PySem.W.fnOf "_law_reason" "_law_reason" (defArgs s__law_reason) (defBody s__law_reason) (defScope s__law_reason) .none kV12 dc12 pm12 an12 cd12 ct12), sl12⟩)
    (c12 : PySem.W.codeIn K cd12 "_law_reason" = true)
    (k12 : PySem.W.keepIn K (.ref f12) = true)
    {f13 : Addr} {oc13 : Value} {od13 an13 : Option Addr} {sl13 : Array (Option Value)} {kV13 dc13 pm13 cd13 ct13 : Value}
    (a13 : PySem.W.nsIn K mainGlobals "check_cell" = some (some (.ref f13)))
    (l13 : K.lookup f13 = some ⟨oc13, od13, .func (PySem.W.fnOf "check_cell" "check_cell" (defArgs s_check_cell) (defBody s_check_cell) (defScope s_check_cell) .none kV13 dc13 pm13 an13 cd13 ct13), sl13⟩)
    (c13 : PySem.W.codeIn K cd13 "check_cell" = true)
    (k13 : PySem.W.keepIn K (.ref f13) = true)
    {f14 : Addr} {oc14 : Value} {od14 an14 : Option Addr} {sl14 : Array (Option Value)} {kV14 dc14 pm14 cd14 ct14 : Value}
    (a14 : PySem.W.nsIn K mainGlobals "check_kind" = some (some (.ref f14)))
    (l14 : K.lookup f14 = some ⟨oc14, od14, .func (PySem.W.fnOf "check_kind" "check_kind" (defArgs s_check_kind) (defBody s_check_kind) (defScope s_check_kind) .none kV14 dc14 pm14 an14 cd14 ct14), sl14⟩)
    (c14 : PySem.W.codeIn K cd14 "check_kind" = true)
    (k14 : PySem.W.keepIn K (.ref f14) = true)
    {f15 : Addr} {oc15 : Value} {od15 an15 : Option Addr} {sl15 : Array (Option Value)} {kV15 dc15 pm15 cd15 ct15 : Value}
    (a15 : PySem.W.findIn K (.ref c_Book) "add_cell" = some (some (.ref f15)))
    (t15 : PySem.W.isFn K (.ref f15) = true)
    (l15 : K.lookup f15 = some ⟨oc15, od15, .func (PySem.W.fnOf "add_cell" "Book.add_cell" (defArgs s_Book_add_cell) (defBody s_Book_add_cell) (defScope s_Book_add_cell) .none kV15 dc15 pm15 an15 cd15 ct15), sl15⟩)
    (c15 : PySem.W.codeIn K cd15 "Book.add_cell" = true)
    (k15 : PySem.W.keepIn K (.ref f15) = true)
    {f16 : Addr} {oc16 : Value} {od16 an16 : Option Addr} {sl16 : Array (Option Value)} {kV16 dc16 pm16 cd16 ct16 : Value}
    (a16 : PySem.W.nsIn K mainGlobals "_law_name" = some (some (.ref f16)))
    (l16 : K.lookup f16 = some ⟨oc16, od16, .func (PySem.W.fnOf "_law_name" "_law_name" (defArgs s__law_name) (defBody s__law_name) (defScope s__law_name) .none kV16 dc16 pm16 an16 cd16 ct16), sl16⟩)
    (c16 : PySem.W.codeIn K cd16 "_law_name" = true)
    (k16 : PySem.W.keepIn K (.ref f16) = true)
    {f17 : Addr} {oc17 : Value} {od17 an17 : Option Addr} {sl17 : Array (Option Value)} {kV17 dc17 pm17 cd17 ct17 : Value}
    (a17 : PySem.W.nsIn K mainGlobals "_law_number" = some (some (.ref f17)))
    (l17 : K.lookup f17 = some ⟨oc17, od17, .func (PySem.W.fnOf "_law_number" "_law_number" (defArgs s__law_number) (defBody s__law_number) (defScope s__law_number) .none kV17 dc17 pm17 an17 cd17 ct17), sl17⟩)
    (c17 : PySem.W.codeIn K cd17 "_law_number" = true)
    (k17 : PySem.W.keepIn K (.ref f17) = true)
    {f18 : Addr} {oc18 : Value} {od18 an18 : Option Addr} {sl18 : Array (Option Value)} {kV18 dc18 pm18 cd18 ct18 : Value}
    (a18 : PySem.W.nsIn K mainGlobals "check_argument" = some (some (.ref f18)))
    (l18 : K.lookup f18 = some ⟨oc18, od18, .func (PySem.W.fnOf "check_argument" "check_argument" (defArgs s_check_argument) (defBody s_check_argument) (defScope s_check_argument) .none kV18 dc18 pm18 an18 cd18 ct18), sl18⟩)
    (c18 : PySem.W.codeIn K cd18 "check_argument" = true)
    (k18 : PySem.W.keepIn K (.ref f18) = true)
    {f19 : Addr} {oc19 : Value} {od19 an19 : Option Addr} {sl19 : Array (Option Value)} {kV19 dc19 pm19 cd19 ct19 : Value}
    (a19 : PySem.W.nsIn K mainGlobals "with_step" = some (some (.ref f19)))
    (l19 : K.lookup f19 = some ⟨oc19, od19, .func (PySem.W.fnOf "with_step" "with_step" (defArgs s_with_step) (defBody s_with_step) (defScope s_with_step) .none kV19 dc19 pm19 an19 cd19 ct19), sl19⟩)
    (c19 : PySem.W.codeIn K cd19 "with_step" = true)
    (k19 : PySem.W.keepIn K (.ref f19) = true)
    {f20 : Addr} {oc20 : Value} {od20 an20 : Option Addr} {sl20 : Array (Option Value)} {kV20 dc20 pm20 cd20 ct20 : Value}
    (a20 : PySem.W.nsIn K mainGlobals "_law_fresh" = some (some (.ref f20)))
    (l20 : K.lookup f20 = some ⟨oc20, od20, .func (PySem.W.fnOf "_law_fresh" "_law_fresh" (defArgs s__law_fresh) (defBody s__law_fresh) (defScope s__law_fresh) .none kV20 dc20 pm20 an20 cd20 ct20), sl20⟩)
    (c20 : PySem.W.codeIn K cd20 "_law_fresh" = true)
    (k20 : PySem.W.keepIn K (.ref f20) = true)
    {f21 : Addr} {oc21 : Value} {od21 an21 : Option Addr} {sl21 : Array (Option Value)} {kV21 dc21 pm21 cd21 ct21 : Value}
    (a21 : PySem.W.nsIn K mainGlobals "_law_kind" = some (some (.ref f21)))
    (l21 : K.lookup f21 = some ⟨oc21, od21, .func (PySem.W.fnOf "_law_kind" "_law_kind" (defArgs s__law_kind) (defBody s__law_kind) (defScope s__law_kind) .none kV21 dc21 pm21 an21 cd21 ct21), sl21⟩)
    (c21 : PySem.W.codeIn K cd21 "_law_kind" = true)
    (k21 : PySem.W.keepIn K (.ref f21) = true)
    {f22 : Addr} {oc22 : Value} {od22 an22 : Option Addr} {sl22 : Array (Option Value)} {kV22 dc22 pm22 cd22 ct22 : Value}
    (a22 : PySem.W.nsIn K mainGlobals "_law_argument" = some (some (.ref f22)))
    (l22 : K.lookup f22 = some ⟨oc22, od22, .func (PySem.W.fnOf "_law_argument" "_law_argument" (defArgs s__law_argument) (defBody s__law_argument) (defScope s__law_argument) .none kV22 dc22 pm22 an22 cd22 ct22), sl22⟩)
    (c22 : PySem.W.codeIn K cd22 "_law_argument" = true)
    (k22 : PySem.W.keepIn K (.ref f22) = true)
    {f23 : Addr} {oc23 : Value} {od23 an23 : Option Addr} {sl23 : Array (Option Value)} {kV23 dc23 pm23 cd23 ct23 : Value}
    (a23 : PySem.W.nsIn K mainGlobals "_law_fault" = some (some (.ref f23)))
    (l23 : K.lookup f23 = some ⟨oc23, od23, .func (PySem.W.fnOf "_law_fault" "_law_fault" (defArgs s__law_fault) (defBody s__law_fault) (defScope s__law_fault) .none kV23 dc23 pm23 an23 cd23 ct23), sl23⟩)
    (c23 : PySem.W.codeIn K cd23 "_law_fault" = true)
    (k23 : PySem.W.keepIn K (.ref f23) = true)
    {f24 : Addr} {oc24 : Value} {od24 an24 : Option Addr} {sl24 : Array (Option Value)} {kV24 dc24 pm24 cd24 ct24 : Value}
    (a24 : PySem.W.findIn K (.ref c_Book) "__setitem__" = some (some (.ref f24)))
    (t24 : PySem.W.isFn K (.ref f24) = true)
    (l24 : K.lookup f24 = some ⟨oc24, od24, .func (PySem.W.fnOf "__setitem__" "Book.__setitem__" (defArgs s_Book___setitem__) (defBody s_Book___setitem__) (defScope s_Book___setitem__) .none kV24 dc24 pm24 an24 cd24 ct24), sl24⟩)
    (c24 : PySem.W.codeIn K cd24 "Book.__setitem__" = true)
    (k24 : PySem.W.keepIn K (.ref f24) = true)
    {f25 : Addr} {oc25 : Value} {od25 an25 : Option Addr} {sl25 : Array (Option Value)} {kV25 dc25 pm25 cd25 ct25 : Value}
    (a25 : PySem.W.nsIn K mainGlobals "_law_lore" = some (some (.ref f25)))
    (l25 : K.lookup f25 = some ⟨oc25, od25, .func (PySem.W.fnOf "_law_lore" "_law_lore" (defArgs s__law_lore) (defBody s__law_lore) (defScope s__law_lore) .none kV25 dc25 pm25 an25 cd25 ct25), sl25⟩)
    (c25 : PySem.W.codeIn K cd25 "_law_lore" = true)
    (k25 : PySem.W.keepIn K (.ref f25) = true)
    {f26 : Addr} {oc26 : Value} {od26 an26 : Option Addr} {sl26 : Array (Option Value)} {kV26 dc26 pm26 cd26 ct26 : Value}
    (a26 : PySem.W.nsIn K mainGlobals "_law_spoilt" = some (some (.ref f26)))
    (l26 : K.lookup f26 = some ⟨oc26, od26, .func (PySem.W.fnOf "_law_spoilt" "_law_spoilt" (defArgs s__law_spoilt) (defBody s__law_spoilt) (defScope s__law_spoilt) .none kV26 dc26 pm26 an26 cd26 ct26), sl26⟩)
    (c26 : PySem.W.codeIn K cd26 "_law_spoilt" = true)
    (k26 : PySem.W.keepIn K (.ref f26) = true)
    {f27 : Addr} {oc27 : Value} {od27 an27 : Option Addr} {sl27 : Array (Option Value)} {kV27 dc27 pm27 cd27 ct27 : Value}
    (a27 : PySem.W.nsIn K mainGlobals "_law_book" = some (some (.ref f27)))
    (l27 : K.lookup f27 = some ⟨oc27, od27, .func (PySem.W.fnOf "_law_book" "_law_book" (defArgs s__law_book) (defBody s__law_book) (defScope s__law_book) .none kV27 dc27 pm27 an27 cd27 ct27), sl27⟩)
    (c27 : PySem.W.codeIn K cd27 "_law_book" = true)
    (k27 : PySem.W.keepIn K (.ref f27) = true)
    {f28 : Addr} {oc28 : Value} {od28 an28 : Option Addr} {sl28 : Array (Option Value)} {kV28 dc28 pm28 cd28 ct28 : Value}
    (a28 : PySem.W.nsIn K mainGlobals "check_at_depth" = some (some (.ref f28)))
    (l28 : K.lookup f28 = some ⟨oc28, od28, .func (PySem.W.fnOf "check_at_depth" "check_at_depth" (defArgs s_check_at_depth) (defBody s_check_at_depth) (defScope s_check_at_depth) .none kV28 dc28 pm28 an28 cd28 ct28), sl28⟩)
    (c28 : PySem.W.codeIn K cd28 "check_at_depth" = true)
    (k28 : PySem.W.keepIn K (.ref f28) = true)
    {f29 : Addr} {oc29 : Value} {od29 an29 : Option Addr} {sl29 : Array (Option Value)} {kV29 dc29 pm29 cd29 ct29 : Value}
    (a29 : PySem.W.nsIn K mainGlobals "_law_action" = some (some (.ref f29)))
    (l29 : K.lookup f29 = some ⟨oc29, od29, .func (PySem.W.fnOf "_law_action" "_law_action" (defArgs s__law_action) (defBody s__law_action) (defScope s__law_action) .none kV29 dc29 pm29 an29 cd29 ct29), sl29⟩)
    (c29 : PySem.W.codeIn K cd29 "_law_action" = true)
    (k29 : PySem.W.keepIn K (.ref f29) = true)
    {f30 : Addr} {oc30 : Value} {od30 an30 : Option Addr} {sl30 : Array (Option Value)} {kV30 dc30 pm30 cd30 ct30 : Value}
    (a30 : PySem.W.nsIn K mainGlobals "check_action" = some (some (.ref f30)))
    (l30 : K.lookup f30 = some ⟨oc30, od30, .func (PySem.W.fnOf "check_action" "check_action" (defArgs s_check_action) (defBody s_check_action) (defScope s_check_action) .none kV30 dc30 pm30 an30 cd30 ct30), sl30⟩)
    (c30 : PySem.W.codeIn K cd30 "check_action" = true)
    (k30 : PySem.W.keepIn K (.ref f30) = true)
    {f31 : Addr} {oc31 : Value} {od31 an31 : Option Addr} {sl31 : Array (Option Value)} {kV31 dc31 pm31 cd31 ct31 : Value}
    (a31 : PySem.W.nsIn K mainGlobals "_law_rich" = some (some (.ref f31)))
    (l31 : K.lookup f31 = some ⟨oc31, od31, .func (PySem.W.fnOf "_law_rich" "_law_rich" (defArgs s__law_rich) (defBody s__law_rich) (defScope s__law_rich) .none kV31 dc31 pm31 an31 cd31 ct31), sl31⟩)
    (c31 : PySem.W.codeIn K cd31 "_law_rich" = true)
    (k31 : PySem.W.keepIn K (.ref f31) = true)
    {f32 : Addr} {oc32 : Value} {od32 an32 : Option Addr} {sl32 : Array (Option Value)} {kV32 dc32 pm32 cd32 ct32 : Value}
    (a32 : PySem.W.nsIn K mainGlobals "_law_outcome" = some (some (.ref f32)))
    (l32 : K.lookup f32 = some ⟨oc32, od32, .func (PySem.W.fnOf "_law_outcome" "_law_outcome" (defArgs s__law_outcome) (defBody s__law_outcome) (defScope s__law_outcome) .none kV32 dc32 pm32 an32 cd32 ct32), sl32⟩)
    (c32 : PySem.W.codeIn K cd32 "_law_outcome" = true)
    (k32 : PySem.W.keepIn K (.ref f32) = true)
    {f33 : Addr} {oc33 : Value} {od33 an33 : Option Addr} {sl33 : Array (Option Value)} {kV33 dc33 pm33 cd33 ct33 : Value}
    (a33 : PySem.W.nsIn K mainGlobals "_law_many" = some (some (.ref f33)))
    (l33 : K.lookup f33 = some ⟨oc33, od33, .func (PySem.W.fnOf "_law_many" "_law_many" (defArgs s__law_many) (defBody s__law_many) (defScope s__law_many) .none kV33 dc33 pm33 an33 cd33 ct33), sl33⟩)
    (c33 : PySem.W.codeIn K cd33 "_law_many" = true)
    (k33 : PySem.W.keepIn K (.ref f33) = true)
    {f34 : Addr} {oc34 : Value} {od34 an34 : Option Addr} {sl34 : Array (Option Value)} {kV34 dc34 pm34 cd34 ct34 : Value}
    (a34 : PySem.W.nsIn K mainGlobals "_law_touched" = some (some (.ref f34)))
    (l34 : K.lookup f34 = some ⟨oc34, od34, .func (PySem.W.fnOf "_law_touched" "_law_touched" (defArgs s__law_touched) (defBody s__law_touched) (defScope s__law_touched) .none kV34 dc34 pm34 an34 cd34 ct34), sl34⟩)
    (c34 : PySem.W.codeIn K cd34 "_law_touched" = true)
    (k34 : PySem.W.keepIn K (.ref f34) = true)
    {f35 : Addr} {oc35 : Value} {od35 an35 : Option Addr} {sl35 : Array (Option Value)} {kV35 dc35 pm35 cd35 ct35 : Value}
    (a35 : PySem.W.nsIn K mainGlobals "_law_same" = some (some (.ref f35)))
    (l35 : K.lookup f35 = some ⟨oc35, od35, .func (PySem.W.fnOf "_law_same" "_law_same" (defArgs s__law_same) (defBody s__law_same) (defScope s__law_same) .none kV35 dc35 pm35 an35 cd35 ct35), sl35⟩)
    (c35 : PySem.W.codeIn K cd35 "_law_same" = true)
    (k35 : PySem.W.keepIn K (.ref f35) = true)
    {f36 : Addr} {oc36 : Value} {od36 an36 : Option Addr} {sl36 : Array (Option Value)} {kV36 dc36 pm36 cd36 ct36 : Value}
    (a36 : PySem.W.nsIn K mainGlobals "law" = some (some (.ref f36)))
    (l36 : K.lookup f36 = some ⟨oc36, od36, .func (PySem.W.fnOf "law" "law" (defArgs s_law) (defBody s_law) (defScope s_law) .none kV36 dc36 pm36 an36 cd36 ct36), sl36⟩)
    (c36 : PySem.W.codeIn K cd36 "law" = true)
    (k36 : PySem.W.keepIn K (.ref f36) = true)
    : ∃ fd : FuncData, (∀ (s : Shared) (u : Value), BindsTo s fd ⟨[u], []⟩ [("_law_script", u)]) ∧ ∀ base : Heap, K.In base → base.Ns mainGlobals mg → FnOk P w K mg base CX0 26 fa fd ["_law_script"] (spLaw K) := by
  have T : Txt P K mg (⟨c_BadAction, c_BadKind, c_BadName, c_BadNumber, c_BadStatement, c_Book, c_Clash, c_DeedError, c_UnknownCell, c_UnknownStep, i_BadAction, i_BadNumber, i_Clash, i_UnknownCell, i_UnknownStep, t_CELL_SIZES, t_CELL_WORDS, t_GUARDS, t_KINDS_WITH_NAME, t_KINDS_WITH_NUMBER⟩ : Ad) := ⟨PySem.W.mg_none_of X G n_ValueError, PySem.W.mg_none_of X G n_all, PySem.W.mg_none_of X G n_bool, PySem.W.mg_none_of X G n_dict, PySem.W.mg_none_of X G n_int, PySem.W.mg_none_of X G n_isinstance, PySem.W.mg_none_of X G n_len, PySem.W.mg_none_of X G n_list, PySem.W.mg_none_of X G n_range, PySem.W.mg_none_of X G n_sorted, PySem.W.mg_none_of X G n_str, PySem.W.mg_none_of X G n_tuple, ⟨.ref t_CELL_SIZES, PySem.W.mg_of X G z_CELL_SIZES, rfl⟩, ⟨.ref t_CELL_WORDS, PySem.W.mg_of X G z_CELL_WORDS, rfl⟩, ⟨_, PySem.W.mg_of X G z_GREATEST_DEPTH, r_GREATEST_DEPTH⟩, ⟨_, PySem.W.mg_of X G z_GREATEST_NUMBER, r_GREATEST_NUMBER⟩, ⟨.ref t_GUARDS, PySem.W.mg_of X G z_GUARDS, rfl⟩, ⟨.ref t_KINDS_WITH_NAME, PySem.W.mg_of X G z_KINDS_WITH_NAME, rfl⟩, ⟨.ref t_KINDS_WITH_NUMBER, PySem.W.mg_of X G z_KINDS_WITH_NUMBER, rfl⟩, ⟨_, PySem.W.mg_of X G z_LETTERS, r_LETTERS⟩, ⟨_, PySem.W.mg_of X G z_LETTERS_AND_DIGITS, r_LETTERS_AND_DIGITS⟩, ⟨_, PySem.W.mg_of X G z_LONGEST_NAME, r_LONGEST_NAME⟩, ⟨_, PySem.W.mg_of X G z_MOST_FURTHER, r_MOST_FURTHER⟩, PySem.W.mg_of X G a_BadAction, PySem.W.mg_of X G a_BadKind, PySem.W.mg_of X G a_BadName, PySem.W.mg_of X G a_BadNumber, PySem.W.mg_of X G a_BadStatement, PySem.W.mg_of X G a_Book, PySem.W.mg_of X G a_Clash, PySem.W.mg_of X G a_DeedError, PySem.W.mg_of X G a_UnknownCell, PySem.W.mg_of X G a_UnknownStep, { gC := PySem.W.mg_of X G a_BadAction, cls := ⟨_, _, _, _, _, _, _, _, _, _, _, _, _, _, _, x_BadAction, ve_BadAction⟩, alo := al_BadAction, sa := sa_BadAction, noN := no_BadAction, iC := in_BadAction, tC := ti_BadAction, kC := kc_BadAction, exC := ex_BadAction, veC := vc_BadAction, slf := sl_BadAction, tyC := ty_BadAction, opq := opq, sup := PySem.W.mg_none_of X G sup, top := top, fun_ := ⟨_, _, _, _, _, _, _, _, _, _, _, _, _, _, _, _, _, _, _, _, _, _, _, _, _, _, _, _, _, _, _, _, _, _, _, _, li_BadAction, ci_BadAction, rfl, rfl, rfl, fun _ _ => rfl, ⟨_, fun _ => rfl⟩, fun _ => rfl, fun _ => rfl, cd_BadAction, fv_BadAction, fl_BadAction, ce_BadAction⟩ }, { gC := PySem.W.mg_of X G a_BadNumber, cls := ⟨_, _, _, _, _, _, _, _, _, _, _, _, _, _, _, x_BadNumber, ve_BadNumber⟩, alo := al_BadNumber, sa := sa_BadNumber, noN := no_BadNumber, iC := in_BadNumber, tC := ti_BadNumber, kC := kc_BadNumber, exC := ex_BadNumber, veC := vc_BadNumber, slf := sl_BadNumber, tyC := ty_BadNumber, opq := opq, sup := PySem.W.mg_none_of X G sup, top := top, fun_ := ⟨_, _, _, _, _, _, _, _, _, _, _, _, _, _, _, _, _, _, _, _, _, _, _, _, _, _, _, _, _, _, _, _, _, _, _, _, li_BadNumber, ci_BadNumber, rfl, rfl, rfl, fun _ _ => rfl, ⟨_, fun _ => rfl⟩, fun _ => rfl, fun _ => rfl, cd_BadNumber, fv_BadNumber, fl_BadNumber, ce_BadNumber⟩ }, { gC := PySem.W.mg_of X G a_Clash, cls := ⟨_, _, _, _, _, _, _, _, _, _, _, _, _, _, _, x_Clash, ve_Clash⟩, alo := al_Clash, sa := sa_Clash, noN := no_Clash, iC := in_Clash, tC := ti_Clash, kC := kc_Clash, exC := ex_Clash, veC := vc_Clash, slf := sl_Clash, tyC := ty_Clash, opq := opq, sup := PySem.W.mg_none_of X G sup, top := top, fun_ := ⟨_, _, _, _, _, _, _, _, _, _, _, _, _, _, _, _, _, _, _, _, _, _, _, _, _, _, _, _, _, _, _, _, _, _, _, _, li_Clash, ci_Clash, rfl, rfl, rfl, fun _ _ => rfl, ⟨_, fun _ => rfl⟩, fun _ => rfl, fun _ => rfl, cd_Clash, fv_Clash, fl_Clash, ce_Clash⟩ }, { gC := PySem.W.mg_of X G a_UnknownCell, cls := ⟨_, _, _, _, _, _, _, _, _, _, _, _, _, _, _, x_UnknownCell, ve_UnknownCell⟩, alo := al_UnknownCell, sa := sa_UnknownCell, noN := no_UnknownCell, iC := in_UnknownCell, tC := ti_UnknownCell, kC := kc_UnknownCell, exC := ex_UnknownCell, veC := vc_UnknownCell, slf := sl_UnknownCell, tyC := ty_UnknownCell, opq := opq, sup := PySem.W.mg_none_of X G sup, top := top, fun_ := ⟨_, _, _, _, _, _, _, _, _, _, _, _, _, _, _, _, _, _, _, _, _, _, _, _, _, _, _, _, _, _, _, _, _, _, _, _, li_UnknownCell, ci_UnknownCell, rfl, rfl, rfl, fun _ _ => rfl, ⟨_, fun _ => rfl⟩, fun _ => rfl, fun _ => rfl, cd_UnknownCell, fv_UnknownCell, fl_UnknownCell, ce_UnknownCell⟩ }, { gC := PySem.W.mg_of X G a_UnknownStep, cls := ⟨_, _, _, _, _, _, _, _, _, _, _, _, _, _, _, x_UnknownStep, ve_UnknownStep⟩, alo := al_UnknownStep, sa := sa_UnknownStep, noN := no_UnknownStep, iC := in_UnknownStep, tC := ti_UnknownStep, kC := kc_UnknownStep, exC := ex_UnknownStep, veC := vc_UnknownStep, slf := sl_UnknownStep, tyC := ty_UnknownStep, opq := opq, sup := PySem.W.mg_none_of X G sup, top := top, fun_ := ⟨_, _, _, _, _, _, _, _, _, _, _, _, _, _, _, _, _, _, _, _, _, _, _, _, _, _, _, _, _, _, _, _, _, _, _, _, li_UnknownStep, ci_UnknownStep, rfl, rfl, rfl, fun _ _ => rfl, ⟨_, fun _ => rfl⟩, fun _ => rfl, fun _ => rfl, cd_UnknownStep, fv_UnknownStep, fl_UnknownStep, ce_UnknownStep⟩ }, ⟨pg_Book, hd_Book, po_Book, sa_Book⟩, ⟨mk_Book, kc_Book, PySem.W.mg_of X G a_Book⟩, nq_Book, ⟨rd_Book, rg_Book⟩, nf_Book__sizes, nf_Book__steps, ⟨_, cv_Book_CELLS, cr_Book_CELLS⟩, ⟨_, cv_Book_STEPS, cr_Book_STEPS⟩⟩
  have TX : Caught K (⟨c_BadAction, c_BadKind, c_BadName, c_BadNumber, c_BadStatement, c_Book, c_Clash, c_DeedError, c_UnknownCell, c_UnknownStep, i_BadAction, i_BadNumber, i_Clash, i_UnknownCell, i_UnknownStep, t_CELL_SIZES, t_CELL_WORDS, t_GUARDS, t_KINDS_WITH_NAME, t_KINDS_WITH_NUMBER⟩ : Ad) := ⟨⟨ga_BadAction, gg_BadAction, ex_BadAction, hd_BadAction⟩, ⟨ga_BadAction, gg_BadAction, ex_BadAction, hd_BadAction, cl_BadAction, sp, tk, ob_BadAction⟩, ⟨ga_BadNumber, gg_BadNumber, ex_BadNumber, hd_BadNumber⟩, ⟨ga_BadNumber, gg_BadNumber, ex_BadNumber, hd_BadNumber, cl_BadNumber, sp, tk, ob_BadNumber⟩, ⟨ga_UnknownCell, gg_UnknownCell, ex_UnknownCell, hd_UnknownCell⟩, ⟨ga_UnknownCell, gg_UnknownCell, ex_UnknownCell, hd_UnknownCell, cl_UnknownCell, sp, tk, ob_UnknownCell⟩, ⟨ga_UnknownStep, gg_UnknownStep, ex_UnknownStep, hd_UnknownStep⟩, ⟨ga_UnknownStep, gg_UnknownStep, ex_UnknownStep, hd_UnknownStep, cl_UnknownStep, sp, tk, ob_UnknownStep⟩, PySem.W.exm_ref ex_DeedError hd_DeedError ty_DeedError se_BadAction_DeedError, PySem.W.exm_ref ex_DeedError hd_DeedError ty_DeedError se_BadNumber_DeedError, PySem.W.exm_ref ex_DeedError hd_DeedError ty_DeedError se_UnknownCell_DeedError, PySem.W.exm_ref ex_DeedError hd_DeedError ty_DeedError se_UnknownStep_DeedError, ⟨⟨pg_Book, hd_Book, po_Book, sa_Book⟩, oc_Book, sp, tk, om_Book⟩, io_Book, k_BadAction__BadAction, k_BadAction__BadKind, k_BadAction__BadName, k_BadAction__BadNumber, k_BadAction__BadStatement, k_BadAction__DeedError, k_BadAction__UnknownCell, k_BadAction__UnknownStep, k_BadAction__ValueError, k_BadNumber__BadAction, k_BadNumber__BadKind, k_BadNumber__BadName, k_BadNumber__BadNumber, k_BadNumber__BadStatement, k_BadNumber__DeedError, k_BadNumber__UnknownCell, k_BadNumber__UnknownStep, k_BadNumber__ValueError, k_UnknownCell__BadAction, k_UnknownCell__BadKind, k_UnknownCell__BadName, k_UnknownCell__BadNumber, k_UnknownCell__BadStatement, k_UnknownCell__DeedError, k_UnknownCell__UnknownCell, k_UnknownCell__UnknownStep, k_UnknownCell__ValueError, k_UnknownStep__BadAction, k_UnknownStep__BadKind, k_UnknownStep__BadName, k_UnknownStep__BadNumber, k_UnknownStep__BadStatement, k_UnknownStep__DeedError, k_UnknownStep__UnknownCell, k_UnknownStep__UnknownStep, k_UnknownStep__ValueError, fun _ => Or.inr ⟨_, _, _, l_CELL_SIZES, lc_CELL_SIZES, ld_CELL_SIZES, lz_CELL_SIZES, lv_CELL_SIZES⟩, fun _ => Or.inr ⟨_, _, _, l_CELL_WORDS, lc_CELL_WORDS, ld_CELL_WORDS, lz_CELL_WORDS, lv_CELL_WORDS⟩, fun _ => Or.inr ⟨_, _, _, l_GUARDS, lc_GUARDS, ld_GUARDS, lz_GUARDS, lv_GUARDS⟩, fun _ => Or.inr ⟨_, _, _, l_KINDS_WITH_NAME, lc_KINDS_WITH_NAME, ld_KINDS_WITH_NAME, lz_KINDS_WITH_NAME, lv_KINDS_WITH_NAME⟩, fun _ => Or.inr ⟨_, _, _, l_KINDS_WITH_NUMBER, lc_KINDS_WITH_NUMBER, ld_KINDS_WITH_NUMBER, lz_KINDS_WITH_NUMBER, lv_KINDS_WITH_NUMBER⟩⟩
  have h_is_name : Has K mg "is_name" s_is_name ["text"] := has_mk X G a0 l0 c0 k0 fun _ _ _ _ _ _ us hl => match us, hl with | [_], _ => rfl
  have h_check_number : Has K mg "check_number" s_check_number ["number"] := has_mk X G a1 l1 c1 k1 fun _ _ _ _ _ _ us hl => match us, hl with | [_], _ => rfl
  have h_at_most : Has K mg "at_most" s_at_most ["entries", "most"] := has_mk X G a2 l2 c2 k2 fun _ _ _ _ _ _ us hl => match us, hl with | [_, _], _ => rfl
  have h_Book_cells : PHas K c_Book "cells" "Book.cells" s_Book_cells ["self"] := phas_mk ⟨a3, pg3, pt3, _, pr3⟩ l3 c3 k3 fun _ _ _ _ _ _ us hl => match us, hl with | [_], _ => rfl
  have h_Book___contains__ : MHas K c_Book "__contains__" "Book.__contains__" s_Book___contains__ ["self", "name"] := mhas_mk a4 t4 l4 c4 k4 fun _ _ _ _ _ _ us hl => match us, hl with | [_, _], _ => rfl
  have h_Book___init__ : MHas K c_Book "__init__" "Book.__init__" s_Book___init__ ["self"] := mhas_mk a5 t5 l5 c5 k5 fun _ _ _ _ _ _ us hl => match us, hl with | [_], _ => rfl
  have h__law_pool : Has K mg "_law_pool" s__law_pool ["_law_script"] := has_mk X G a6 l6 c6 k6 fun _ _ _ _ _ _ us hl => match us, hl with | [_], _ => rfl
  have h__law_mixed : Has K mg "_law_mixed" s__law_mixed ["_law_cell", "_law_turn", "_law_limit"] := has_mk X G a7 l7 c7 k7 fun _ _ _ _ _ _ us hl => match us, hl with | [_, _, _], _ => rfl
  have h__law_letters : Has K mg "_law_letters" s__law_letters [] := has_mk X G a8 l8 c8 k8 fun _ _ _ _ _ _ us hl => match us, hl with | [], _ => rfl
  have h__law_single : Has K mg "_law_single" s__law_single ["_law_e"] := has_mk X G a9 l9 c9 k9 fun _ _ _ _ _ _ us hl => match us, hl with | [_], _ => rfl
  have h_check_name : Has K mg "check_name" s_check_name ["name"] := has_mk X G a10 l10 c10 k10 fun _ _ _ _ _ _ us hl => match us, hl with | [_], _ => rfl
  have h__law_draw : Has K mg "_law_draw" s__law_draw ["_law_pool_here", "_law_limit"] := has_mk X G a11 l11 c11 k11 fun _ _ _ _ _ _ us hl => match us, hl with | [_, _], _ => rfl
  have h__law_reason : Has K mg "_law_reason" s__law_reason ["_law_e"] := has_mk X G a12 l12 c12 k12 fun _ _ _ _ _ _ us hl => match us, hl with | [_], _ => rfl
  have h_check_cell : Has K mg "check_cell" s_check_cell ["cell", "book"] := has_mk X G a13 l13 c13 k13 fun _ _ _ _ _ _ us hl => match us, hl with | [_, _], _ => rfl
  have h_check_kind : Has K mg "check_kind" s_check_kind ["kind"] := has_mk X G a14 l14 c14 k14 fun _ _ _ _ _ _ us hl => match us, hl with | [_], _ => rfl
  have h_Book_add_cell : MHas K c_Book "add_cell" "Book.add_cell" s_Book_add_cell ["self", "name", "size"] := mhas_mk a15 t15 l15 c15 k15 fun _ _ _ _ _ _ us hl => match us, hl with | [_, _, _], _ => rfl
  have h__law_name : Has K mg "_law_name" s__law_name ["_law_pool_here"] := has_mk X G a16 l16 c16 k16 fun _ _ _ _ _ _ us hl => match us, hl with | [_], _ => rfl
  have h__law_number : Has K mg "_law_number" s__law_number ["_law_pool_here"] := has_mk X G a17 l17 c17 k17 fun _ _ _ _ _ _ us hl => match us, hl with | [_], _ => rfl
  have h_check_argument : Has K mg "check_argument" s_check_argument ["book", "action"] := has_mk X G a18 l18 c18 k18 fun _ _ _ _ _ _ us hl => match us, hl with | [_, _], _ => rfl
  have h_with_step : Has K mg "with_step" s_with_step ["steps", "name", "kind"] := has_mk X G a19 l19 c19 k19 fun _ _ _ _ _ _ us hl => match us, hl with | [_, _, _], _ => rfl
  have h__law_fresh : Has K mg "_law_fresh" s__law_fresh ["_law_pool_here", "_law_used"] := has_mk X G a20 l20 c20 k20 fun _ _ _ _ _ _ us hl => match us, hl with | [_, _], _ => rfl
  have h__law_kind : Has K mg "_law_kind" s__law_kind ["_law_pool_here"] := has_mk X G a21 l21 c21 k21 fun _ _ _ _ _ _ us hl => match us, hl with | [_], _ => rfl
  have h__law_argument : Has K mg "_law_argument" s__law_argument ["_law_pool_here", "_law_lore_here", "_law_late"] := has_mk X G a22 l22 c22 k22 fun _ _ _ _ _ _ us hl => match us, hl with | [_, _, _], _ => rfl
  have h__law_fault : Has K mg "_law_fault" s__law_fault ["_law_lore_here", "_law_action_here", "_law_depth"] := has_mk X G a23 l23 c23 k23 fun _ _ _ _ _ _ us hl => match us, hl with | [_, _, _], _ => rfl
  have h_Book___setitem__ : MHas K c_Book "__setitem__" "Book.__setitem__" s_Book___setitem__ ["self", "name", "kind"] := mhas_mk a24 t24 l24 c24 k24 fun _ _ _ _ _ _ us hl => match us, hl with | [_, _, _], _ => rfl
  have h__law_lore : Has K mg "_law_lore" s__law_lore ["_law_pool_here", "_law_steps", "_law_cells"] := has_mk X G a25 l25 c25 k25 fun _ _ _ _ _ _ us hl => match us, hl with | [_, _, _], _ => rfl
  have h__law_spoilt : Has K mg "_law_spoilt" s__law_spoilt ["_law_pool_here", "_law_lore_here", "_law_action_here", "_law_way"] := has_mk X G a26 l26 c26 k26 fun _ _ _ _ _ _ us hl => match us, hl with | [_, _, _, _], _ => rfl
  have h__law_book : Has K mg "_law_book" s__law_book ["_law_lore_here"] := has_mk X G a27 l27 c27 k27 fun _ _ _ _ _ _ us hl => match us, hl with | [_], _ => rfl
  have h_check_at_depth : Has K mg "check_at_depth" s_check_at_depth ["book", "action", "depth"] := has_mk X G a28 l28 c28 k28 fun _ _ _ _ _ _ us hl => match us, hl with | [_, _, _], _ => rfl
  have h__law_action : Has K mg "_law_action" s__law_action ["_law_pool_here", "_law_lore_here", "_law_depth"] := has_mk X G a29 l29 c29 k29 fun _ _ _ _ _ _ us hl => match us, hl with | [_, _, _], _ => rfl
  have h_check_action : Has K mg "check_action" s_check_action ["book", "action"] := has_mk X G a30 l30 c30 k30 fun _ _ _ _ _ _ us hl => match us, hl with | [_, _], _ => rfl
  have h__law_rich : Has K mg "_law_rich" s__law_rich ["_law_pool_here", "_law_lore_here"] := has_mk X G a31 l31 c31 k31 fun _ _ _ _ _ _ us hl => match us, hl with | [_, _], _ => rfl
  have h__law_outcome : Has K mg "_law_outcome" s__law_outcome ["_law_book_here", "_law_action_here"] := has_mk X G a32 l32 c32 k32 fun _ _ _ _ _ _ us hl => match us, hl with | [_, _], _ => rfl
  have h__law_many : Has K mg "_law_many" s__law_many ["_law_action_here"] := has_mk X G a33 l33 c33 k33 fun _ _ _ _ _ _ us hl => match us, hl with | [_], _ => rfl
  have h__law_touched : Has K mg "_law_touched" s__law_touched ["_law_pool_here", "_law_lore_here", "_law_action_here", "_law_spot", "_law_way"] := has_mk X G a34 l34 c34 k34 fun _ _ _ _ _ _ us hl => match us, hl with | [_, _, _, _, _], _ => rfl
  have h__law_same : Has K mg "_law_same" s__law_same ["_law_actual", "_law_expected"] := has_mk X G a35 l35 c35 k35 fun _ _ _ _ _ _ us hl => match us, hl with | [_, _], _ => rfl
  have h_law : Has K mg "law" s_law ["_law_script"] := has_mk X G a36 l36 c36 k36 fun _ _ _ _ _ _ us hl => match us, hl with | [_], _ => rfl
  exact all_law hfa T TX h_is_name h_check_number h_at_most h_Book_cells h_Book___contains__ h_Book___init__ h__law_pool h__law_mixed h__law_letters h__law_single h_check_name h__law_draw h__law_reason h_check_cell h_check_kind h_Book_add_cell h__law_name h__law_number h_check_argument h_with_step h__law_fresh h__law_kind h__law_argument h__law_fault h_Book___setitem__ h__law_lore h__law_spoilt h__law_book h_check_at_depth h__law_action h_check_action h__law_rich h__law_outcome h__law_many h__law_touched h__law_same h_law
end Ov
open PySem PySem.W PyProof.Rows
set_option maxRecDepth 100000 in
set_option maxHeartbeats 0 in
theorem PySem.Challenge.cw_exitdeeds_k07_whole_action_checks_holds : PySem.Challenge.rw_exitdeeds_k07_whole_action_checks.Holds := by
  w_on; o_law; k_head; (case hw => w_witness2)
  k_fill
  refine L2.walk_ofK (l := PySem.Challenge.rw_exitdeeds_k07_whole_action_checks) (n := 63) (k := 26) (x := "_law_script") (CX := L2.CX0) (sp := Ov.spLaw) rfl (by decide) rfl ⟨rfl, by decide, by decide⟩ (fun w h Y => PySem.W.kIn_of Y) ?F Ov.law_start fun _ _ _ _ z => z
  case F =>
    intro w mg fa h KX G hmg
    refine' Ov.all_mk KX G hmg ?n_ValueError ?n_all ?n_bool ?n_dict ?n_int ?n_isinstance ?n_len ?n_list ?n_range ?n_sorted ?n_str ?n_tuple ?z_CELL_SIZES ?l_CELL_SIZES ?lc_CELL_SIZES ?ld_CELL_SIZES ?lz_CELL_SIZES ?lv_CELL_SIZES ?z_CELL_WORDS ?l_CELL_WORDS ?lc_CELL_WORDS ?ld_CELL_WORDS ?lz_CELL_WORDS ?lv_CELL_WORDS ?z_GREATEST_DEPTH ?r_GREATEST_DEPTH ?z_GREATEST_NUMBER ?r_GREATEST_NUMBER ?z_GUARDS ?l_GUARDS ?lc_GUARDS ?ld_GUARDS ?lz_GUARDS ?lv_GUARDS ?z_KINDS_WITH_NAME ?l_KINDS_WITH_NAME ?lc_KINDS_WITH_NAME ?ld_KINDS_WITH_NAME ?lz_KINDS_WITH_NAME ?lv_KINDS_WITH_NAME ?z_KINDS_WITH_NUMBER ?l_KINDS_WITH_NUMBER ?lc_KINDS_WITH_NUMBER ?ld_KINDS_WITH_NUMBER ?lz_KINDS_WITH_NUMBER ?lv_KINDS_WITH_NUMBER ?z_LETTERS ?r_LETTERS ?z_LETTERS_AND_DIGITS ?r_LETTERS_AND_DIGITS ?z_LONGEST_NAME ?r_LONGEST_NAME ?z_MOST_FURTHER ?r_MOST_FURTHER ?a_BadAction ?a_BadKind ?a_BadName ?a_BadNumber ?a_BadStatement ?a_Book ?a_Clash ?a_DeedError ?a_UnknownCell ?a_UnknownStep ?pg_Book ?hd_Book ?po_Book ?sa_Book ?mk_Book ?kc_Book ?nq_Book ?rd_Book ?rg_Book ?nf_Book__sizes ?nf_Book__steps ?cv_Book_CELLS ?cr_Book_CELLS ?cv_Book_STEPS ?cr_Book_STEPS ?opq ?sup ?top ?x_BadAction ?ve_BadAction ?al_BadAction ?sa_BadAction ?no_BadAction ?in_BadAction ?ti_BadAction ?kc_BadAction ?ex_BadAction ?vc_BadAction ?sl_BadAction ?ty_BadAction ?li_BadAction ?ci_BadAction ?cd_BadAction ?fv_BadAction ?fl_BadAction ?ce_BadAction ?x_BadNumber ?ve_BadNumber ?al_BadNumber ?sa_BadNumber ?no_BadNumber ?in_BadNumber ?ti_BadNumber ?kc_BadNumber ?ex_BadNumber ?vc_BadNumber ?sl_BadNumber ?ty_BadNumber ?li_BadNumber ?ci_BadNumber ?cd_BadNumber ?fv_BadNumber ?fl_BadNumber ?ce_BadNumber ?x_Clash ?ve_Clash ?al_Clash ?sa_Clash ?no_Clash ?in_Clash ?ti_Clash ?kc_Clash ?ex_Clash ?vc_Clash ?sl_Clash ?ty_Clash ?li_Clash ?ci_Clash ?cd_Clash ?fv_Clash ?fl_Clash ?ce_Clash ?x_UnknownCell ?ve_UnknownCell ?al_UnknownCell ?sa_UnknownCell ?no_UnknownCell ?in_UnknownCell ?ti_UnknownCell ?kc_UnknownCell ?ex_UnknownCell ?vc_UnknownCell ?sl_UnknownCell ?ty_UnknownCell ?li_UnknownCell ?ci_UnknownCell ?cd_UnknownCell ?fv_UnknownCell ?fl_UnknownCell ?ce_UnknownCell ?x_UnknownStep ?ve_UnknownStep ?al_UnknownStep ?sa_UnknownStep ?no_UnknownStep ?in_UnknownStep ?ti_UnknownStep ?kc_UnknownStep ?ex_UnknownStep ?vc_UnknownStep ?sl_UnknownStep ?ty_UnknownStep ?li_UnknownStep ?ci_UnknownStep ?cd_UnknownStep ?fv_UnknownStep ?fl_UnknownStep ?ce_UnknownStep ?sp ?tk ?ga_BadAction ?gg_BadAction ?hd_BadAction ?cl_BadAction ?ob_BadAction ?ga_BadNumber ?gg_BadNumber ?hd_BadNumber ?cl_BadNumber ?ob_BadNumber ?ga_UnknownCell ?gg_UnknownCell ?hd_UnknownCell ?cl_UnknownCell ?ob_UnknownCell ?ga_UnknownStep ?gg_UnknownStep ?hd_UnknownStep ?cl_UnknownStep ?ob_UnknownStep ?se_BadAction_DeedError ?se_BadNumber_DeedError ?se_UnknownCell_DeedError ?se_UnknownStep_DeedError ?hd_DeedError ?ex_DeedError ?ty_DeedError ?oc_Book ?om_Book ?io_Book ?k_BadAction__BadAction ?k_BadAction__BadKind ?k_BadAction__BadName ?k_BadAction__BadNumber ?k_BadAction__BadStatement ?k_BadAction__DeedError ?k_BadAction__UnknownCell ?k_BadAction__UnknownStep ?k_BadAction__ValueError ?k_BadNumber__BadAction ?k_BadNumber__BadKind ?k_BadNumber__BadName ?k_BadNumber__BadNumber ?k_BadNumber__BadStatement ?k_BadNumber__DeedError ?k_BadNumber__UnknownCell ?k_BadNumber__UnknownStep ?k_BadNumber__ValueError ?k_UnknownCell__BadAction ?k_UnknownCell__BadKind ?k_UnknownCell__BadName ?k_UnknownCell__BadNumber ?k_UnknownCell__BadStatement ?k_UnknownCell__DeedError ?k_UnknownCell__UnknownCell ?k_UnknownCell__UnknownStep ?k_UnknownCell__ValueError ?k_UnknownStep__BadAction ?k_UnknownStep__BadKind ?k_UnknownStep__BadName ?k_UnknownStep__BadNumber ?k_UnknownStep__BadStatement ?k_UnknownStep__DeedError ?k_UnknownStep__UnknownCell ?k_UnknownStep__UnknownStep ?k_UnknownStep__ValueError ?a0 ?l0 ?c0 ?k0 ?a1 ?l1 ?c1 ?k1 ?a2 ?l2 ?c2 ?k2 ?a3 ?pg3 ?pt3 ?pr3 ?l3 ?c3 ?k3 ?a4 ?t4 ?l4 ?c4 ?k4 ?a5 ?t5 ?l5 ?c5 ?k5 ?a6 ?l6 ?c6 ?k6 ?a7 ?l7 ?c7 ?k7 ?a8 ?l8 ?c8 ?k8 ?a9 ?l9 ?c9 ?k9 ?a10 ?l10 ?c10 ?k10 ?a11 ?l11 ?c11 ?k11 ?a12 ?l12 ?c12 ?k12 ?a13 ?l13 ?c13 ?k13 ?a14 ?l14 ?c14 ?k14 ?a15 ?t15 ?l15 ?c15 ?k15 ?a16 ?l16 ?c16 ?k16 ?a17 ?l17 ?c17 ?k17 ?a18 ?l18 ?c18 ?k18 ?a19 ?l19 ?c19 ?k19 ?a20 ?l20 ?c20 ?k20 ?a21 ?l21 ?c21 ?k21 ?a22 ?l22 ?c22 ?k22 ?a23 ?l23 ?c23 ?k23 ?a24 ?t24 ?l24 ?c24 ?k24 ?a25 ?l25 ?c25 ?k25 ?a26 ?l26 ?c26 ?k26 ?a27 ?l27 ?c27 ?k27 ?a28 ?l28 ?c28 ?k28 ?a29 ?l29 ?c29 ?k29 ?a30 ?l30 ?c30 ?k30 ?a31 ?l31 ?c31 ?k31 ?a32 ?l32 ?c32 ?k32 ?a33 ?l33 ?c33 ?k33 ?a34 ?l34 ?c34 ?k34 ?a35 ?l35 ?c35 ?k35 ?a36 ?l36 ?c36 ?k36
    (case n_ValueError => k_is)
    (case n_all => k_is)
    (case n_bool => k_is)
    (case n_dict => k_is)
    (case n_int => k_is)
    (case n_isinstance => k_is)
    (case n_len => k_is)
    (case n_list => k_is)
    (case n_range => k_is)
    (case n_sorted => k_is)
    (case n_str => k_is)
    (case n_tuple => k_is)
    (case z_CELL_SIZES => k_is)
    (case l_CELL_SIZES => k_is)
    (case lc_CELL_SIZES => rfl)
    (case ld_CELL_SIZES => rfl)
    (case lz_CELL_SIZES => decide)
    (case lv_CELL_SIZES => exact Paired.cons ⟨_, rfl⟩ (Paired.cons ⟨_, rfl⟩ (Paired.nil)))
    (case z_CELL_WORDS => k_is)
    (case l_CELL_WORDS => k_is)
    (case lc_CELL_WORDS => rfl)
    (case ld_CELL_WORDS => rfl)
    (case lz_CELL_WORDS => decide)
    (case lv_CELL_WORDS => exact Paired.cons ⟨_, rfl⟩ (Paired.cons ⟨_, rfl⟩ (Paired.nil)))
    (case z_GREATEST_DEPTH => k_is)
    (case r_GREATEST_DEPTH => exact ⟨_, rfl⟩)
    (case z_GREATEST_NUMBER => k_is)
    (case r_GREATEST_NUMBER => exact ⟨_, rfl⟩)
    (case z_GUARDS => k_is)
    (case l_GUARDS => k_is)
    (case lc_GUARDS => rfl)
    (case ld_GUARDS => rfl)
    (case lz_GUARDS => decide)
    (case lv_GUARDS => exact Paired.cons ⟨_, rfl⟩ (Paired.cons ⟨_, rfl⟩ (Paired.cons ⟨_, rfl⟩ (Paired.nil))))
    (case z_KINDS_WITH_NAME => k_is)
    (case l_KINDS_WITH_NAME => k_is)
    (case lc_KINDS_WITH_NAME => rfl)
    (case ld_KINDS_WITH_NAME => rfl)
    (case lz_KINDS_WITH_NAME => decide)
    (case lv_KINDS_WITH_NAME => exact Paired.cons ⟨_, rfl⟩ (Paired.cons ⟨_, rfl⟩ (Paired.nil)))
    (case z_KINDS_WITH_NUMBER => k_is)
    (case l_KINDS_WITH_NUMBER => k_is)
    (case lc_KINDS_WITH_NUMBER => rfl)
    (case ld_KINDS_WITH_NUMBER => rfl)
    (case lz_KINDS_WITH_NUMBER => decide)
    (case lv_KINDS_WITH_NUMBER => exact Paired.cons ⟨_, rfl⟩ (Paired.cons ⟨_, rfl⟩ (Paired.nil)))
    (case z_LETTERS => k_is)
    (case r_LETTERS => exact ⟨_, rfl⟩)
    (case z_LETTERS_AND_DIGITS => k_is)
    (case r_LETTERS_AND_DIGITS => exact ⟨_, rfl⟩)
    (case z_LONGEST_NAME => k_is)
    (case r_LONGEST_NAME => exact ⟨_, rfl⟩)
    (case z_MOST_FURTHER => k_is)
    (case r_MOST_FURTHER => exact ⟨_, rfl⟩)
    (case a_BadAction => k_is)
    (case a_BadKind => k_is)
    (case a_BadName => k_is)
    (case a_BadNumber => k_is)
    (case a_BadStatement => k_is)
    (case a_Book => k_is)
    (case a_Clash => k_is)
    (case a_DeedError => k_is)
    (case a_UnknownCell => k_is)
    (case a_UnknownStep => k_is)
    (case pg_Book => k_is)
    (case hd_Book => k_is)
    (case po_Book => k_is)
    (case sa_Book => k_is)
    (case mk_Book => k_is)
    (case kc_Book => k_is)
    (case nq_Book => k_is)
    (case rd_Book => k_is)
    (case rg_Book => k_is)
    (case nf_Book__sizes => k_is)
    (case nf_Book__steps => k_is)
    (case cv_Book_CELLS => k_is)
    (case cr_Book_CELLS => exact ⟨_, rfl⟩)
    (case cv_Book_STEPS => k_is)
    (case cr_Book_STEPS => exact ⟨_, rfl⟩)
    (case opq => k_is)
    (case sup => k_is)
    (case top => decide +kernel)
    (case x_BadAction => k_is)
    (case ve_BadAction => decide +kernel)
    (case al_BadAction => ks_is)
    (case sa_BadAction => k_is)
    (case no_BadAction => k_is)
    (case in_BadAction => k_is)
    (case ti_BadAction => k_is)
    (case kc_BadAction => k_is)
    (case ex_BadAction => k_is)
    (case vc_BadAction => k_is)
    (case sl_BadAction => k_is)
    (case ty_BadAction => k_is)
    (case li_BadAction => k_is)
    (case ci_BadAction => k_is)
    (case cd_BadAction => k_is)
    (case fv_BadAction => rfl)
    (case fl_BadAction => first | rfl | decide +kernel)
    (case ce_BadAction => k_is)
    (case x_BadNumber => k_is)
    (case ve_BadNumber => decide +kernel)
    (case al_BadNumber => ks_is)
    (case sa_BadNumber => k_is)
    (case no_BadNumber => k_is)
    (case in_BadNumber => k_is)
    (case ti_BadNumber => k_is)
    (case kc_BadNumber => k_is)
    (case ex_BadNumber => k_is)
    (case vc_BadNumber => k_is)
    (case sl_BadNumber => k_is)
    (case ty_BadNumber => k_is)
    (case li_BadNumber => k_is)
    (case ci_BadNumber => k_is)
    (case cd_BadNumber => k_is)
    (case fv_BadNumber => rfl)
    (case fl_BadNumber => first | rfl | decide +kernel)
    (case ce_BadNumber => k_is)
    (case x_Clash => k_is)
    (case ve_Clash => decide +kernel)
    (case al_Clash => ks_is)
    (case sa_Clash => k_is)
    (case no_Clash => k_is)
    (case in_Clash => k_is)
    (case ti_Clash => k_is)
    (case kc_Clash => k_is)
    (case ex_Clash => k_is)
    (case vc_Clash => k_is)
    (case sl_Clash => k_is)
    (case ty_Clash => k_is)
    (case li_Clash => k_is)
    (case ci_Clash => k_is)
    (case cd_Clash => k_is)
    (case fv_Clash => rfl)
    (case fl_Clash => first | rfl | decide +kernel)
    (case ce_Clash => k_is)
    (case x_UnknownCell => k_is)
    (case ve_UnknownCell => decide +kernel)
    (case al_UnknownCell => ks_is)
    (case sa_UnknownCell => k_is)
    (case no_UnknownCell => k_is)
    (case in_UnknownCell => k_is)
    (case ti_UnknownCell => k_is)
    (case kc_UnknownCell => k_is)
    (case ex_UnknownCell => k_is)
    (case vc_UnknownCell => k_is)
    (case sl_UnknownCell => k_is)
    (case ty_UnknownCell => k_is)
    (case li_UnknownCell => k_is)
    (case ci_UnknownCell => k_is)
    (case cd_UnknownCell => k_is)
    (case fv_UnknownCell => rfl)
    (case fl_UnknownCell => first | rfl | decide +kernel)
    (case ce_UnknownCell => k_is)
    (case x_UnknownStep => k_is)
    (case ve_UnknownStep => decide +kernel)
    (case al_UnknownStep => ks_is)
    (case sa_UnknownStep => k_is)
    (case no_UnknownStep => k_is)
    (case in_UnknownStep => k_is)
    (case ti_UnknownStep => k_is)
    (case kc_UnknownStep => k_is)
    (case ex_UnknownStep => k_is)
    (case vc_UnknownStep => k_is)
    (case sl_UnknownStep => k_is)
    (case ty_UnknownStep => k_is)
    (case li_UnknownStep => k_is)
    (case ci_UnknownStep => k_is)
    (case cd_UnknownStep => k_is)
    (case fv_UnknownStep => rfl)
    (case fl_UnknownStep => first | rfl | decide +kernel)
    (case ce_UnknownStep => k_is)
    (case sp => k_is)
    (case tk => k_is)
    (case ga_BadAction => k_is)
    (case gg_BadAction => k_is)
    (case hd_BadAction => k_is)
    (case cl_BadAction => k_is)
    (case ob_BadAction => k_is)
    (case ga_BadNumber => k_is)
    (case gg_BadNumber => k_is)
    (case hd_BadNumber => k_is)
    (case cl_BadNumber => k_is)
    (case ob_BadNumber => k_is)
    (case ga_UnknownCell => k_is)
    (case gg_UnknownCell => k_is)
    (case hd_UnknownCell => k_is)
    (case cl_UnknownCell => k_is)
    (case ob_UnknownCell => k_is)
    (case ga_UnknownStep => k_is)
    (case gg_UnknownStep => k_is)
    (case hd_UnknownStep => k_is)
    (case cl_UnknownStep => k_is)
    (case ob_UnknownStep => k_is)
    (case se_BadAction_DeedError => k_is)
    (case se_BadNumber_DeedError => k_is)
    (case se_UnknownCell_DeedError => k_is)
    (case se_UnknownStep_DeedError => k_is)
    (case hd_DeedError => k_is)
    (case ex_DeedError => k_is)
    (case ty_DeedError => k_is)
    (case oc_Book => k_is)
    (case om_Book => k_is)
    (case io_Book => kit_is)
    (case k_BadAction__BadAction => kit_is)
    (case k_BadAction__BadKind => kit_is)
    (case k_BadAction__BadName => kit_is)
    (case k_BadAction__BadNumber => kit_is)
    (case k_BadAction__BadStatement => kit_is)
    (case k_BadAction__DeedError => kit_is)
    (case k_BadAction__UnknownCell => kit_is)
    (case k_BadAction__UnknownStep => kit_is)
    (case k_BadAction__ValueError => kit_is)
    (case k_BadNumber__BadAction => kit_is)
    (case k_BadNumber__BadKind => kit_is)
    (case k_BadNumber__BadName => kit_is)
    (case k_BadNumber__BadNumber => kit_is)
    (case k_BadNumber__BadStatement => kit_is)
    (case k_BadNumber__DeedError => kit_is)
    (case k_BadNumber__UnknownCell => kit_is)
    (case k_BadNumber__UnknownStep => kit_is)
    (case k_BadNumber__ValueError => kit_is)
    (case k_UnknownCell__BadAction => kit_is)
    (case k_UnknownCell__BadKind => kit_is)
    (case k_UnknownCell__BadName => kit_is)
    (case k_UnknownCell__BadNumber => kit_is)
    (case k_UnknownCell__BadStatement => kit_is)
    (case k_UnknownCell__DeedError => kit_is)
    (case k_UnknownCell__UnknownCell => kit_is)
    (case k_UnknownCell__UnknownStep => kit_is)
    (case k_UnknownCell__ValueError => kit_is)
    (case k_UnknownStep__BadAction => kit_is)
    (case k_UnknownStep__BadKind => kit_is)
    (case k_UnknownStep__BadName => kit_is)
    (case k_UnknownStep__BadNumber => kit_is)
    (case k_UnknownStep__BadStatement => kit_is)
    (case k_UnknownStep__DeedError => kit_is)
    (case k_UnknownStep__UnknownCell => kit_is)
    (case k_UnknownStep__UnknownStep => kit_is)
    (case k_UnknownStep__ValueError => kit_is)
    (case a0 => k_is)
    (case l0 => k_is)
    (case c0 => k_is)
    (case k0 => k_is)
    (case a1 => k_is)
    (case l1 => k_is)
    (case c1 => k_is)
    (case k1 => k_is)
    (case a2 => k_is)
    (case l2 => k_is)
    (case c2 => k_is)
    (case k2 => k_is)
    (case a3 => k_is)
    (case pg3 => k_is)
    (case pt3 => k_is)
    (case pr3 => k_is)
    (case l3 => k_is)
    (case c3 => k_is)
    (case k3 => k_is)
    (case a4 => k_is)
    (case t4 => k_is)
    (case l4 => k_is)
    (case c4 => k_is)
    (case k4 => k_is)
    (case a5 => k_is)
    (case t5 => k_is)
    (case l5 => k_is)
    (case c5 => k_is)
    (case k5 => k_is)
    (case a6 => k_is)
    (case l6 => k_is)
    (case c6 => k_is)
    (case k6 => k_is)
    (case a7 => k_is)
    (case l7 => k_is)
    (case c7 => k_is)
    (case k7 => k_is)
    (case a8 => k_is)
    (case l8 => k_is)
    (case c8 => k_is)
    (case k8 => k_is)
    (case a9 => k_is)
    (case l9 => k_is)
    (case c9 => k_is)
    (case k9 => k_is)
    (case a10 => k_is)
    (case l10 => k_is)
    (case c10 => k_is)
    (case k10 => k_is)
    (case a11 => k_is)
    (case l11 => k_is)
    (case c11 => k_is)
    (case k11 => k_is)
    (case a12 => k_is)
    (case l12 => k_is)
    (case c12 => k_is)
    (case k12 => k_is)
    (case a13 => k_is)
    (case l13 => k_is)
    (case c13 => k_is)
    (case k13 => k_is)
    (case a14 => k_is)
    (case l14 => k_is)
    (case c14 => k_is)
    (case k14 => k_is)
    (case a15 => k_is)
    (case t15 => k_is)
    (case l15 => k_is)
    (case c15 => k_is)
    (case k15 => k_is)
    (case a16 => k_is)
    (case l16 => k_is)
    (case c16 => k_is)
    (case k16 => k_is)
    (case a17 => k_is)
    (case l17 => k_is)
    (case c17 => k_is)
    (case k17 => k_is)
    (case a18 => k_is)
    (case l18 => k_is)
    (case c18 => k_is)
    (case k18 => k_is)
    (case a19 => k_is)
    (case l19 => k_is)
    (case c19 => k_is)
    (case k19 => k_is)
    (case a20 => k_is)
    (case l20 => k_is)
    (case c20 => k_is)
    (case k20 => k_is)
    (case a21 => k_is)
    (case l21 => k_is)
    (case c21 => k_is)
    (case k21 => k_is)
    (case a22 => k_is)
    (case l22 => k_is)
    (case c22 => k_is)
    (case k22 => k_is)
    (case a23 => k_is)
    (case l23 => k_is)
    (case c23 => k_is)
    (case k23 => k_is)
    (case a24 => k_is)
    (case t24 => k_is)
    (case l24 => k_is)
    (case c24 => k_is)
    (case k24 => k_is)
    (case a25 => k_is)
    (case l25 => k_is)
    (case c25 => k_is)
    (case k25 => k_is)
    (case a26 => k_is)
    (case l26 => k_is)
    (case c26 => k_is)
    (case k26 => k_is)
    (case a27 => k_is)
    (case l27 => k_is)
    (case c27 => k_is)
    (case k27 => k_is)
    (case a28 => k_is)
    (case l28 => k_is)
    (case c28 => k_is)
    (case k28 => k_is)
    (case a29 => k_is)
    (case l29 => k_is)
    (case c29 => k_is)
    (case k29 => k_is)
    (case a30 => k_is)
    (case l30 => k_is)
    (case c30 => k_is)
    (case k30 => k_is)
    (case a31 => k_is)
    (case l31 => k_is)
    (case c31 => k_is)
    (case k31 => k_is)
    (case a32 => k_is)
    (case l32 => k_is)
    (case c32 => k_is)
    (case k32 => k_is)
    (case a33 => k_is)
    (case l33 => k_is)
    (case c33 => k_is)
    (case k33 => k_is)
    (case a34 => k_is)
    (case l34 => k_is)
    (case c34 => k_is)
    (case k34 => k_is)
    (case a35 => k_is)
    (case l35 => k_is)
    (case c35 => k_is)
    (case k35 => k_is)
    (case a36 => k_is)
    (case l36 => k_is)
    (case c36 => k_is)
    (case k36 => k_is)
#print axioms PySem.Challenge.cw_exitdeeds_k07_whole_action_checks_holds

